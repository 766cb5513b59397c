import PyProof.Rows.All
import HandS.ForMost
import HandS.IsInst
import HandS.Wide
import HandS.TupAny
import HandS.TupMul
import HandS.Text
import PyProof.Rows.IntBool
import HandS.Conv
import HandS.Flow
import PyProof.ReprRoads
import HandS.Rev
import HandS.Style
import PyProof.StrOps2
import HandS.SortOrd
import HandS.SortInts
import HandS.TupSets
import HandS.RaiseMore
import PyProof.SumAny
import HandS.ExcValue
import HandS.Deep
import PySem.Challenge.RW_spoolrounds_k20_what_is_a_lot
set_option Elab.async false
set_option linter.all false
set_option maxRecDepth 100000
set_option maxHeartbeats 4000000
/-! A layer of data: values by what they say (PyData), things that change by their places in a memory. -/
namespace DL
open PySem PySem.Spec PyProof.Rows L2

abbrev Frg := PySem.W.Frag
def keyD : Key → PyData
  | .inl i => .int i
  | .inr x => .str x
mutual
/-- the value v says d in the heap G -/
inductive Dt (K : Frg) (G : Hp) : V → PyData → Prop
  | non : Dt K G .non .none
  | bl (b : Bool) : Dt K G (.bl b) (.bool b)
  | int (i : Int) : Dt K G (.int i) (.int i)
  | str (x : Str) : Dt K G (.str x) (.str x)
  | lst {a : Addr} {xs : List V} {ds : List PyData} (h : G a = some (.lst xs)) (q : DtA K G xs ds) : Dt K G (.ref a) (.list ds)
  | tup {a : Addr} {xs : List V} {ds : List PyData} (h : SqT K G a xs) (q : DtA K G xs ds) : Dt K G (.ref a) (.tuple ds)
  | dic {a : Addr} {ys : List (Key × V)} {ds : List (PyData × PyData)} (h : G a = some (.dK ys)) (q : DtK K G ys ds) : Dt K G (.ref a) (.dict ds)
inductive DtA (K : Frg) (G : Hp) : List V → List PyData → Prop
  | nil : DtA K G [] []
  | cons {v : V} {vs : List V} {d : PyData} {ds : List PyData} (h : Dt K G v d) (q : DtA K G vs ds) : DtA K G (v :: vs) (d :: ds)
inductive DtK (K : Frg) (G : Hp) : List (Key × V) → List (PyData × PyData) → Prop
  | nil : DtK K G [] []
  | cons {k : Key} {v : V} {vs : List (Key × V)} {d : PyData} {ds : List (PyData × PyData)} (h : Dt K G v d) (q : DtK K G vs ds) : DtK K G ((k, v) :: vs) ((keyD k, d) :: ds)
end
section
variable {K : Frg} {G G' : Hp}
theorem sqt_same {a : Addr} {xs : List V} (e : Same G G') (h : SqT K G a xs) : SqT K G' a xs := by
  rcases h with (h | ⟨o, h⟩) | h
  · exact .inl (.inl (e _ _ h))
  · exact .inl (.inr ⟨o, e _ _ h⟩)
  · exact .inr h
mutual
theorem Dt.mono (e : Same G G') : ∀ (d : PyData) {v : V}, Dt K G v d → Dt K G' v d
  | .none, _, h => by cases h; exact .non
  | .bool b, _, h => by cases h; exact .bl b
  | .int i, _, h => by cases h; exact .int i
  | .str x, _, h => by cases h; exact .str x
  | .list ds, _, h => by cases h with | lst h q => exact .lst (e _ _ h) (DtA.mono e ds q)
  | .tuple ds, _, h => by cases h with | tup h q => exact .tup (sqt_same e h) (DtA.mono e ds q)
  | .dict ds, _, h => by cases h with | dic h q => exact .dic (e _ _ h) (DtK.mono e ds q)
theorem DtA.mono (e : Same G G') : ∀ (ds : List PyData) {vs : List V}, DtA K G vs ds → DtA K G' vs ds
  | [], _, h => by cases h; exact .nil
  | d :: ds, _, h => by cases h with | cons h q => exact .cons (Dt.mono e d h) (DtA.mono e ds q)
theorem DtK.mono (e : Same G G') : ∀ (ds : List (PyData × PyData)) {vs : List (Key × V)}, DtK K G vs ds → DtK K G' vs ds
  | [], _, h => by cases h; exact .nil
  | (k, d) :: ds, _, h => by cases h with | cons h q => exact .cons (Dt.mono e d h) (DtK.mono e ds q)
end
theorem DtA.len : ∀ {vs : List V} {ds : List PyData}, DtA K G vs ds → vs.length = ds.length
  | _, _, .nil => rfl
  | _, _, .cons h q => by rw [List.length_cons, List.length_cons, DtA.len q]
theorem DtA.app : ∀ {vs ws : List V} {ds es : List PyData}, DtA K G vs ds → DtA K G ws es → DtA K G (vs ++ ws) (ds ++ es)
  | _, _, _, _, .nil, r => r
  | _, _, _, _, .cons h q, r => .cons h (q.app r)
theorem DtA.get : ∀ {vs : List V} {ds : List PyData} {i : Nat} {d : PyData}, DtA K G vs ds → ds[i]? = some d → ∃ v, vs[i]? = some v ∧ Dt K G v d
  | _, _, _, _, .nil, e => by simp at e
  | _, _, 0, _, .cons h q, e => by simp at e; subst e; exact ⟨_, rfl, h⟩
  | _, _, i + 1, d, .cons _ q, e => by
    obtain ⟨v, h1, h2⟩ := DtA.get (i := i) (d := d) q (by simpa using e)
    exact ⟨v, by simpa using h1, h2⟩
theorem DtA.get' : ∀ {vs : List V} {ds : List PyData} {i : Nat} {v : V}, DtA K G vs ds → vs[i]? = some v → ∃ d, ds[i]? = some d ∧ Dt K G v d
  | _, _, _, _, .nil, e => by simp at e
  | _, _, 0, _, .cons h q, e => by simp at e; subst e; exact ⟨_, rfl, h⟩
  | _, _, i + 1, v, .cons _ q, e => by
    obtain ⟨d, h1, h2⟩ := DtA.get' (i := i) (v := v) q (by simpa using e)
    exact ⟨d, by simpa using h1, h2⟩
theorem DtA.take : ∀ {vs : List V} {ds : List PyData} (n : Nat), DtA K G vs ds → DtA K G (vs.take n) (ds.take n)
  | _, _, 0, _ => .nil
  | _, _, _ + 1, .nil => .nil
  | _, _, n + 1, .cons h q => .cons h (DtA.take n q)
theorem DtA.drop : ∀ {vs : List V} {ds : List PyData} (n : Nat), DtA K G vs ds → DtA K G (vs.drop n) (ds.drop n)
  | _, _, 0, h => h
  | _, _, _ + 1, .nil => .nil
  | _, _, n + 1, .cons _ q => DtA.drop n q
theorem DtA.set {v : V} {d : PyData} (h : Dt K G v d) : ∀ {vs : List V} {ds : List PyData} (n : Nat), DtA K G vs ds → DtA K G (vs.set n v) (ds.set n d)
  | _, _, _, .nil => .nil
  | _, _, 0, .cons _ q => .cons h q
  | _, _, n + 1, .cons g q => .cons g (DtA.set h n q)
theorem DtA.rev : ∀ {vs : List V} {ds : List PyData}, DtA K G vs ds → DtA K G vs.reverse ds.reverse
  | _, _, .nil => .nil
  | _, _, .cons h q => by rw [List.reverse_cons, List.reverse_cons]; exact (DtA.rev q).app (.cons h .nil)
end

/-! ### what changes: a memory of places -/
/-- data; a place of the memory; the script, which is read alone -/
inductive EV where
  | d (x : PyData) | l (i : Nat) | f (ds : List PyData) | t (xs : List EV)
  /-- an instance that stands as it is: its class by name, its attributes -/
  | o (c : Str) (fs : List (Str × PyData))
inductive MO where
  | gone | lst (ds : List PyData) | dct (kvs : List (Key × PyData)) | ins (c : Str) (fs : List (Str × PyData))
abbrev Mem := List MO
abbrev Env' := List (Option EV)

def Hid (ρ : List Addr) (m : Mem) (a : Addr) : Prop := ∃ (i : Nat) (o : MO), ρ[i]? = some a ∧ m[i]? = some o ∧ o ≠ .gone
open Classical in
/-- the heap without the things of the memory -/
noncomputable def hid (ρ : List Addr) (m : Mem) (H : Hp) : Hp := fun a => if Hid ρ m a then none else H a
theorem hid_no {ρ : List Addr} {m : Mem} {H : Hp} {a : Addr} (h : ¬ Hid ρ m a) : hid ρ m H a = H a := by
  unfold hid; rw [if_neg h]
theorem hid_some {ρ : List Addr} {m : Mem} {H : Hp} {a : Addr} {o : HO} (h : hid ρ m H a = some o) : H a = some o ∧ ¬ Hid ρ m a := by
  unfold hid at h
  split at h
  · cases h
  · exact ⟨h, by assumption⟩
theorem hid_le {ρ : List Addr} {m : Mem} {H : Hp} : Same (hid ρ m H) H := fun _ _ h => (hid_some h).1

/-- attributes that are data -/
def FdR (K : Frg) (G : Hp) : List (Str × V) → List (Str × PyData) → Prop := Paired fun p q => p.1 = q.1 ∧ Dt K G p.2 q.2
mutual
def EvR (K : Frg) (G : Hp) (ρ : List Addr) (v : V) : EV → Prop
  | .d x => Dt K G v x
  | .l i => ∃ a, ρ[i]? = some a ∧ v = .ref a
  | .f ds => ∃ a xs, v = .ref a ∧ SqL K G a xs ∧ DtA K G xs ds
  | .t xs => ∃ a vs, v = .ref a ∧ SqT K G a vs ∧ EvAll K G ρ vs xs
  | .o c fs => ∃ a C dx ys, v = .ref a ∧ PySem.W.nsIn K mainGlobals c = some (some (.ref C)) ∧ G a = some (.ins C dx ys) ∧ FdR K G ys fs
def EvAll (K : Frg) (G : Hp) (ρ : List Addr) (vs : List V) : List EV → Prop
  | [] => vs = []
  | x :: xs => ∃ w ws, vs = w :: ws ∧ EvR K G ρ w x ∧ EvAll K G ρ ws xs
end
/-- the pairs of a dict, the attributes of an instance -/
def KvR (K : Frg) (G : Hp) : List (Key × V) → List (Key × PyData) → Prop := Paired fun p q => p.1 = q.1 ∧ Dt K G p.2 q.2
def MOk (K : Frg) (G : Hp) (ρ : List Addr) (H : Hp) (a : Addr) : MO → Prop
  | .gone => True
  | .lst ds => ∃ xs, H a = some (.lst xs) ∧ DtA K G xs ds
  | .dct kvs => ∃ ys, H a = some (.dK ys) ∧ KvR K G ys kvs
  | .ins c fs => ∃ C dx ys, PySem.W.nsIn K mainGlobals c = some (some (.ref C)) ∧ H a = some (.ins C dx ys) ∧ FdR K G ys fs
structure RelM (K : Frg) (H : Hp) (ρ : List Addr) (m : Mem) : Prop where
  len : ρ.length = m.length
  nd : ρ.Nodup
  al : ∀ a ∈ ρ, H a ≠ none
  ok : ∀ (i : Nat) (a : Addr) (o : MO), ρ[i]? = some a → m[i]? = some o → MOk K (hid ρ m H) ρ H a o
structure EnvR (K : Frg) (G : Hp) (ρ : List Addr) (σ : L2.St) (e : Env') : Prop where
  len : σ.length = e.length
  get : ∀ (i : Nat) (x : EV), e[i]? = some (some x) → ∃ v, σ[i]? = some (some v) ∧ EvR K G ρ v x
/-- how a state goes on -/
structure Gr (ρ : List Addr) (m : Mem) (H : Hp) (ρ' : List Addr) (m' : Mem) (H' : Hp) : Prop where
  pre : ρ <+: ρ'
  same : Same (hid ρ m H) (hid ρ' m' H')
section
variable {K : Frg} {ρ ρ' ρ'' : List Addr} {m m' m'' : Mem} {H H' H'' : Hp} {G G' : Hp}
theorem Gr.refl : Gr ρ m H ρ m H := ⟨List.prefix_refl _, Same.refl _⟩
theorem Gr.trans (a : Gr ρ m H ρ' m' H') (b : Gr ρ' m' H' ρ'' m'' H'') : Gr ρ m H ρ'' m'' H'' := ⟨a.pre.trans b.pre, a.same.trans b.same⟩
theorem pre_get {i : Nat} {a : Addr} (h : ρ <+: ρ') (e : ρ[i]? = some a) : ρ'[i]? = some a := by
  obtain ⟨t, rfl⟩ := h
  rw [List.getElem?_append_left]
  · exact e
  · exact (List.getElem?_eq_some_iff.mp e).1
theorem FdR.mono (e : Same G G') : ∀ {ys : List (Str × V)} {fs : List (Str × PyData)}, FdR K G ys fs → FdR K G' ys fs
  | _, _, .nil => .nil
  | _, _, .cons h q => .cons ⟨h.1, Dt.mono e _ h.2⟩ (FdR.mono e q)
mutual
theorem EvR.mono' (e : Same G G') (p : ρ <+: ρ') : ∀ (x : EV) {v : V}, EvR K G ρ v x → EvR K G' ρ' v x
  | .d x, _, h => by rw [EvR] at h ⊢; exact Dt.mono e x h
  | .l i, _, h => by rw [EvR] at h ⊢; obtain ⟨a, h1, h2⟩ := h; exact ⟨a, pre_get p h1, h2⟩
  | .f ds, _, h => by rw [EvR] at h ⊢; obtain ⟨a, xs, h1, h2, h3⟩ := h; exact ⟨a, xs, h1, e.seq h2, DtA.mono e _ h3⟩
  | .t xs, _, h => by rw [EvR] at h ⊢; obtain ⟨a, vs, h1, h2, h3⟩ := h; exact ⟨a, vs, h1, sqt_same e h2, EvAll.mono' e p xs h3⟩
  | .o c fs, _, h => by rw [EvR] at h ⊢; obtain ⟨a, C, dx, ys, h1, h2, h3, h4⟩ := h; exact ⟨a, C, dx, ys, h1, h2, e _ _ h3, h4.mono e⟩
theorem EvAll.mono' (e : Same G G') (p : ρ <+: ρ') : ∀ (xs : List EV) {vs : List V}, EvAll K G ρ vs xs → EvAll K G' ρ' vs xs
  | [], _, h => by rw [EvAll] at h ⊢; exact h
  | x :: xs, _, h => by rw [EvAll] at h ⊢; obtain ⟨w, ws, h1, h2, h3⟩ := h; exact ⟨w, ws, h1, EvR.mono' e p x h2, EvAll.mono' e p xs h3⟩
end
theorem EvR.mono {v : V} {x : EV} (e : Same G G') (p : ρ <+: ρ') (h : EvR K G ρ v x) : EvR K G' ρ' v x := EvR.mono' e p x h
theorem EvR.gr {v : V} {x : EV} (g : Gr ρ m H ρ' m' H') (h : EvR K (hid ρ m H) ρ v x) : EvR K (hid ρ' m' H') ρ' v x := EvR.mono g.same g.pre h
theorem EnvR.gr {σ : L2.St} {e : Env'} (g : Gr ρ m H ρ' m' H') (h : EnvR K (hid ρ m H) ρ σ e) : EnvR K (hid ρ' m' H') ρ' σ e :=
  ⟨h.len, fun i x hx => let ⟨v, h1, h2⟩ := h.get i x hx; ⟨v, h1, h2.gr g⟩⟩
theorem KvR.mono (e : Same G G') : ∀ {ys : List (Key × V)} {kvs : List (Key × PyData)}, KvR K G ys kvs → KvR K G' ys kvs
  | _, _, .nil => .nil
  | _, _, .cons h q => .cons ⟨h.1, Dt.mono e _ h.2⟩ (KvR.mono e q)
theorem MOk.mono {a : Addr} {o : MO} (e : Same G G') (p : ρ <+: ρ') (ha : H a = H' a ∨ Same H H') (h : MOk K G ρ H a o) : MOk K G' ρ' H' a o := by
  have tr : ∀ u, H a = some u → H' a = some u := fun u hu => ha.elim (fun z => z ▸ hu) fun z => z _ _ hu
  cases o with
  | gone => trivial
  | lst ds => obtain ⟨xs, h1, h2⟩ := h; exact ⟨xs, tr _ h1, DtA.mono e ds h2⟩
  | dct kvs => obtain ⟨ys, h1, h2⟩ := h; exact ⟨ys, tr _ h1, KvR.mono e h2⟩
  | ins c fs => obtain ⟨C, dx, ys, h0, h1, h2⟩ := h; exact ⟨C, dx, ys, h0, tr _ h1, FdR.mono e h2⟩
theorem RelM.hidden (r : RelM K H ρ m) {a : Addr} (h : Hid ρ m a) : a ∈ ρ := let ⟨i, o, h1, _⟩ := h; List.mem_of_getElem? h1
/-- a heap that only grew -/
theorem hid_same (s : Same H H') : Same (hid ρ m H) (hid ρ m H') := fun b o h => by
  obtain ⟨h1, h2⟩ := hid_some h
  rw [hid_no h2]; exact s _ _ h1
theorem RelM.grow (r : RelM K H ρ m) (s : Same H H') : RelM K H' ρ m ∧ Gr ρ m H ρ m H' :=
  ⟨⟨r.len, r.nd, fun a h e => r.al a h (s.free e), fun i a o h1 h2 => (r.ok i a o h1 h2).mono (hid_same s) (List.prefix_refl _) (.inr s)⟩, List.prefix_refl _, hid_same s⟩
/-- a new thing stands at p -/
theorem RelM.new (r : RelM K H ρ m) {p : Addr} {o : HO} (hp : H p = none) : RelM K (upd H p o) ρ m ∧ Gr ρ m H ρ m (upd H p o) ∧ hid ρ m (upd H p o) p = some o := by
  have s : Same H (upd H p o) := fun b u h => by rw [upd_ne (ne_of_none h hp)]; exact h
  refine ⟨(r.grow s).1, (r.grow s).2, ?_⟩
  rw [hid_no, upd_same]
  intro z
  exact r.al p (r.hidden z) hp
end

/-! ### looking at a thing as data -/
def kvD (kvs : List (Key × PyData)) : List (PyData × PyData) := kvs.map fun p => (keyD p.1, p.2)
def vw (m : Mem) : EV → Option PyData
  | .d x => some x
  | .l i => match m[i]? with
    | some (.lst ds) => some (.list ds)
    | some (.dct kvs) => some (.dict (kvD kvs))
    | _ => none
  | .f _ => none
  | .t _ => none
  | .o _ _ => none
inductive VwR (K : Frg) (G H : Hp) : V → PyData → Prop
  | d {v : V} {x : PyData} (h : Dt K G v x) : VwR K G H v x
  | l {a : Addr} {xs : List V} {ds : List PyData} (h : H a = some (.lst xs)) (q : DtA K G xs ds) : VwR K G H (.ref a) (.list ds)
  | k {a : Addr} {ys : List (Key × V)} {kvs : List (Key × PyData)} (h : H a = some (.dK ys)) (q : KvR K G ys kvs) : VwR K G H (.ref a) (.dict (kvD kvs))
section
variable {K : Frg} {ρ ρ' : List Addr} {m m' : Mem} {H H' : Hp} {G G' : Hp}
theorem kv_dtk : ∀ {ys : List (Key × V)} {kvs : List (Key × PyData)}, KvR K G ys kvs → DtK K G ys (kvD kvs)
  | _, _, .nil => .nil
  | (k, v) :: _, (k', d) :: _, .cons h q => by
    obtain ⟨h1, h2⟩ := h
    have h1' : k = k' := h1
    subst h1'
    exact .cons h2 (kv_dtk q)
theorem vw_of {v : V} {r : EV} {x : PyData} (R : RelM K H ρ m) (h : EvR K (hid ρ m H) ρ v r) (e : vw m r = some x) : VwR K (hid ρ m H) H v x := by
  cases r with
  | d y => cases e; exact .d h
  | f ds => cases e
  | t xs => cases e
  | o c fs => cases e
  | l i =>
    obtain ⟨a, h1, rfl⟩ := h
    simp only [vw] at e
    cases q : m[i]? with
    | none => rw [q] at e; cases e
    | some o =>
      rw [q] at e
      have ok := R.ok i a o h1 q
      cases o with
      | gone => cases e
      | lst ds => cases e; obtain ⟨xs, h2, h3⟩ := ok; exact .l h2 h3
      | dct kvs => cases e; obtain ⟨ys, h2, h3⟩ := ok; exact .k h2 h3
      | ins c fs => cases e
/-- read in the whole heap -/
theorem VwR.full {v : V} {x : PyData} (s : Same G H) (h : VwR K G H v x) : Dt K H v x := by
  cases h with
  | d h => exact Dt.mono s x h
  | l h q => exact .lst h (DtA.mono s _ q)
  | k h q => exact .dic h (DtK.mono s _ (kv_dtk q))
theorem VwR.list {v : V} {ds : List PyData} (s : Same G H) (h : VwR K G H v (.list ds)) : ∃ a xs, v = .ref a ∧ H a = some (.lst xs) ∧ DtA K G xs ds := by
  cases h with
  | d h => cases h with | lst h q => exact ⟨_, _, rfl, s _ _ h, q⟩
  | l h q => exact ⟨_, _, rfl, h, q⟩
theorem VwR.tuple {v : V} {ds : List PyData} (s : Same G H) (h : VwR K G H v (.tuple ds)) : ∃ a xs, v = .ref a ∧ SqT K H a xs ∧ DtA K G xs ds := by
  cases h with
  | d h => cases h with | tup h q => exact ⟨_, _, rfl, sqt_same s h, q⟩
theorem VwR.int {v : V} {i : Int} (h : VwR K G H v (.int i)) : v = .int i := by cases h with | d h => cases h; rfl
theorem VwR.bl {v : V} {i : Bool} (h : VwR K G H v (.bool i)) : v = .bl i := by cases h with | d h => cases h; rfl
theorem VwR.str {v : V} {i : Str} (h : VwR K G H v (.str i)) : v = .str i := by cases h with | d h => cases h; rfl
theorem VwR.non {v : V} (h : VwR K G H v .none) : v = .non := by cases h with | d h => cases h; rfl
theorem VwR.gr {v : V} {x : PyData} (g : Same G G') (hh : Same H H') (h : VwR K G H v x) : VwR K G' H' v x := by
  cases h with
  | d h => exact .d (Dt.mono g x h)
  | l h q => exact .l (hh _ _ h) (DtA.mono g _ q)
  | k h q => exact .k (hh _ _ h) (KvR.mono g q)
end

/-! ### a whole look, whatever stands where -/
mutual
def vwF (m : Mem) : EV → Option PyData
  | .d x => some x
  | .l i => vw m (.l i)
  | .f _ => none
  | .o _ _ => none
  | .t xs => match vwFs m xs with
    | some ds => some (.tuple ds)
    | none => none
def vwFs (m : Mem) : List EV → Option (List PyData)
  | [] => some []
  | x :: xs => match vwF m x with
    | some d => match vwFs m xs with
      | some ds => some (d :: ds)
      | none => none
    | none => none
end
section
variable {K : Frg} {ρ : List Addr} {m : Mem} {H : Hp}
mutual
theorem vwF_of (R : RelM K H ρ m) : ∀ (r : EV) {v : V} {x : PyData}, EvR K (hid ρ m H) ρ v r → vwF m r = some x → Dt K H v x
  | .d y, _, _, h, e => by rw [EvR] at h; rw [vwF] at e; cases e; exact Dt.mono hid_le _ h
  | .l i, _, _, h, e => by rw [vwF] at e; exact (vw_of R h e).full hid_le
  | .f ds, _, _, h, e => by rw [vwF] at e; cases e
  | .o c fs, _, _, h, e => by rw [vwF] at e; cases e
  | .t xs, _, _, h, e => by
    rw [EvR] at h
    rw [vwF] at e
    obtain ⟨a, vs, rfl, h1, h2⟩ := h
    cases q : vwFs m xs with
    | none => rw [q] at e; cases e
    | some ds => rw [q] at e; cases e; exact .tup (sqt_same hid_le h1) (vwFs_of R xs h2 q)
theorem vwFs_of (R : RelM K H ρ m) : ∀ (rs : List EV) {vs : List V} {xs : List PyData}, EvAll K (hid ρ m H) ρ vs rs → vwFs m rs = some xs → DtA K H vs xs
  | [], _, _, h, e => by rw [EvAll] at h; rw [vwFs] at e; cases e; subst h; exact .nil
  | r :: rs, _, _, h, e => by
    rw [EvAll] at h
    rw [vwFs] at e
    obtain ⟨w, ws, rfl, h1, h2⟩ := h
    cases q1 : vwF m r with
    | none => rw [q1] at e; cases e
    | some d =>
      rw [q1] at e
      cases q2 : vwFs m rs with
      | none => rw [q2] at e; cases e
      | some ds => rw [q2] at e; cases e; exact .cons (vwF_of R r h1 q1) (vwFs_of R rs h2 q2)
end
end

/-! ### readings -/
abbrev ME := Env' → Mem → Option (EV × Mem)
abbrev MB := Env' → Mem → Option (Bool × Mem)
abbrev MA := Env' → Mem → Option (List EV × Mem)
def EvA (K : Frg) (G : Hp) (ρ : List Addr) : List V → List EV → Prop := Paired fun v x => EvR K G ρ v x
theorem evA_all {K : Frg} {G : Hp} {ρ : List Addr} : ∀ {vs : List V} {xs : List EV}, EvA K G ρ vs xs → EvAll K G ρ vs xs
  | _, _, .nil => by rw [EvAll]
  | _, _, .cons h q => by rw [EvAll]; exact ⟨_, _, rfl, h, evA_all q⟩
theorem all_evA {K : Frg} {G : Hp} {ρ : List Addr} : ∀ {xs : List EV} {vs : List V}, EvAll K G ρ vs xs → EvA K G ρ vs xs
  | [], _, h => by rw [EvAll] at h; subst h; exact .nil
  | x :: xs, _, h => by rw [EvAll] at h; obtain ⟨w, ws, rfl, h1, h2⟩ := h; exact .cons h1 (all_evA h2)
theorem EvA.gr {K : Frg} {ρ ρ' : List Addr} {m m' : Mem} {H H' : Hp} (g : Gr ρ m H ρ' m' H') : ∀ {vs : List V} {xs : List EV}, EvA K (hid ρ m H) ρ vs xs → EvA K (hid ρ' m' H') ρ' vs xs
  | _, _, .nil => .nil
  | _, _, .cons h q => .cons (h.gr g) (EvA.gr g q)
def rd (K : Frg) (f : ME) : TE := fun σ H Q => ∃ ρ e m, RelM K H ρ m ∧ EnvR K (hid ρ m H) ρ σ e ∧ ∃ r m', f e m = some (r, m') ∧
  ∀ v H' ρ', Gr ρ m H ρ' m' H' → RelM K H' ρ' m' → EvR K (hid ρ' m' H') ρ' v r → Q v H'
def rb (K : Frg) (f : MB) : TT := fun σ H Q => ∃ ρ e m, RelM K H ρ m ∧ EnvR K (hid ρ m H) ρ σ e ∧ ∃ r m', f e m = some (r, m') ∧
  ∀ H' ρ', Gr ρ m H ρ' m' H' → RelM K H' ρ' m' → Q r H'
def ra (K : Frg) (f : MA) : TA := fun σ H Q => ∃ ρ e m, RelM K H ρ m ∧ EnvR K (hid ρ m H) ρ σ e ∧ ∃ rs m', f e m = some (rs, m') ∧
  ∀ vs H' ρ', Gr ρ m H ρ' m' H' → RelM K H' ρ' m' → EvA K (hid ρ' m' H') ρ' vs rs → Q vs H'
theorem PE.imp {X : Cx} {e : Expr} {t t' : TE} (h : PE X e t) (w : ∀ σ H Q, t' σ H Q → t σ H Q) : PE X e t' := ⟨fun pins s σ H Q I q => h.run pins s σ H Q I (w _ _ _ q)⟩
theorem PT.imp {X : Cx} {e : Expr} {t t' : TT} (h : PT X e t) (w : ∀ σ H Q, t' σ H Q → t σ H Q) : PT X e t' := ⟨fun pins s σ H Q I q => h.run pins s σ H Q I (w _ _ _ q)⟩
theorem PW.imp {X : Cx} {e : Expr} {t t' : TT} (h : PW X e t) (w : ∀ σ H Q, t' σ H Q → t σ H Q) : PW X e t' := ⟨fun wh pins s σ H Q I q => h.run wh pins s σ H Q I (w _ _ _ q)⟩
theorem PA.imp {X : Cx} {e : List Expr} {t t' : TA} (h : PA X e t) (w : ∀ σ H Q, t' σ H Q → t σ H Q) : PA X e t' := ⟨fun pos pins s σ H Q I q => h.run pos pins s σ H Q I (w _ _ _ q)⟩
theorem PS.imp {X : Cx} {e : Stmt} {t t' : TS} (h : PS X e t) (w : ∀ D σ H, t' D σ H → t D σ H) : PS X e t' := ⟨fun pins s σ H D I q => h.run pins s σ H D I (w _ _ _ q)⟩
theorem PSs.imp {X : Cx} {e : List Stmt} {t t' : TS} (h : PSs X e t) (w : ∀ D σ H, t' D σ H → t D σ H) : PSs X e t' := ⟨fun pins s σ H D I q => h.run pins s σ H D I (w _ _ _ q)⟩

section
variable {K : Frg} {σ : L2.St} {H : Hp} {ρ : List Addr} {e : Env'} {m m1 m2 : Mem}
/-- one expression's reading from its value -/
theorem rd_mk {f : ME} {r : EV} {Q : VK} (R : RelM K H ρ m) (E : EnvR K (hid ρ m H) ρ σ e) (h : f e m = some (r, m1))
    (k : ∀ v H' ρ', Gr ρ m H ρ' m1 H' → RelM K H' ρ' m1 → EnvR K (hid ρ' m1 H') ρ' σ e → EvR K (hid ρ' m1 H') ρ' v r → Q v H') : rd K f σ H Q :=
  ⟨ρ, e, m, R, E, r, m1, h, fun v H' ρ' g R' q => k v H' ρ' g R' (E.gr g) q⟩
theorem rb_mk {f : MB} {r : Bool} {Q : Bool → Hp → Prop} (R : RelM K H ρ m) (E : EnvR K (hid ρ m H) ρ σ e) (h : f e m = some (r, m1))
    (k : ∀ H' ρ', Gr ρ m H ρ' m1 H' → RelM K H' ρ' m1 → EnvR K (hid ρ' m1 H') ρ' σ e → Q r H') : rb K f σ H Q :=
  ⟨ρ, e, m, R, E, r, m1, h, fun H' ρ' g R' => k H' ρ' g R' (E.gr g)⟩
theorem ra_mk {f : MA} {r : List EV} {Q : List V → Hp → Prop} (R : RelM K H ρ m) (E : EnvR K (hid ρ m H) ρ σ e) (h : f e m = some (r, m1))
    (k : ∀ v H' ρ', Gr ρ m H ρ' m1 H' → RelM K H' ρ' m1 → EnvR K (hid ρ' m1 H') ρ' σ e → EvA K (hid ρ' m1 H') ρ' v r → Q v H') : ra K f σ H Q :=
  ⟨ρ, e, m, R, E, r, m1, h, fun v H' ρ' g R' q => k v H' ρ' g R' (E.gr g) q⟩
end

/-! ### names, constants, arguments -/
def eVar (i : Nat) : ME := fun e m => match e[i]? with
  | some (some x) => some (x, m)
  | _ => none
def eC (x : PyData) : ME := fun _ m => some (.d x, m)
def aNil : MA := fun _ m => some ([], m)
def aCons (f : ME) (g : MA) : MA := fun e m => match f e m with
  | some (x, m1) => match g e m1 with
    | some (xs, m2) => some (x :: xs, m2)
    | none => none
  | none => none
section
variable {X : Cx} {pos : Pos} {a b : Expr}
theorem q_var {i : Nat} {x : Expr} (h : PE X x (tVar i)) : PE X x (rd X.K (eVar i)) := PE.imp h fun σ H Q ⟨ρ, e, m, R, E, r, m', hr, k⟩ => by
  unfold eVar at hr
  cases q : e[i]? with
  | none => rw [q] at hr; cases hr
  | some y =>
    rw [q] at hr
    cases y with
    | none => cases hr
    | some y =>
      cases hr
      obtain ⟨v, h1, h2⟩ := E.get i _ q
      exact ⟨v, h1, k v H ρ .refl R h2⟩
theorem q_c {x : Expr} {v : V} {d : PyData} (h : PE X x (tC v)) (hd : ∀ G, Dt X.K G v d) : PE X x (rd X.K (eC d)) := PE.imp h fun σ H Q ⟨ρ, e, m, R, E, r, m', hr, k⟩ => by
  cases hr
  exact k v H ρ .refl R (hd _)
theorem q_int {i : Int} {j pos} : PE X (.Constant (.int i) j pos) (rd X.K (eC (.int i))) := q_c pe_int fun _ => .int i
theorem q_bl {i : Bool} {j pos} : PE X (.Constant (.bool i) j pos) (rd X.K (eC (.bool i))) := q_c pe_bl fun _ => .bl i
theorem q_non {j pos} : PE X (.Constant .none j pos) (rd X.K (eC .none)) := q_c pe_non fun _ => .non
theorem q_str {x} {j pos} : PE X (.Constant (.str x) j pos) (rd X.K (eC (.str x))) := q_c pe_str fun _ => .str x
theorem qa_nil : PA X [] (ra X.K aNil) := PA.imp pa_nil fun σ H Q ⟨ρ, e, m, R, E, r, m', hr, k⟩ => by
  cases hr
  exact k [] H ρ .refl R .nil
theorem qa_cons {es : List Expr} {f : ME} {g : MA} (ha : PE X a (rd X.K f)) (hr : PA X es (ra X.K g)) (hs : starEach (a :: es) X.env = (false, eval a X.env) :: starEach es X.env := by rfl) : PA X (a :: es) (ra X.K (aCons f g)) :=
  PA.imp (pa_cons ha hr hs) fun σ H Q ⟨ρ, e, m, R, E, r, m', hr, k⟩ => by
    unfold aCons at hr
    cases q1 : f e m with
    | none => rw [q1] at hr; cases hr
    | some p =>
      obtain ⟨x, m1⟩ := p
      rw [q1] at hr
      dsimp only at hr
      cases q2 : g e m1 with
      | none => rw [q2] at hr; cases hr
      | some p =>
        obtain ⟨xs, m2⟩ := p
        rw [q2] at hr
        cases hr
        refine rd_mk R E q1 fun v1 H1 ρ1 g1 R1 E1 r1 => ?_
        refine ra_mk R1 E1 q2 fun v2 H2 ρ2 g2 R2 E2 r2 => ?_
        exact k _ H2 ρ2 (g1.trans g2) R2 (.cons (r1.gr g2) r2)
end
end DL
set_option Elab.async false
set_option linter.all false
set_option maxRecDepth 100000
set_option maxHeartbeats 4000000
namespace DL
open PySem PySem.Spec PyProof.Rows L2

/-! ### operations of two values, by data -/
def rop (K : Frg) (g : PyData → PyData → Option PyData) : R2 := fun x y H Q => ∃ ρ m dx dy z, RelM K H ρ m ∧ VwR K (hid ρ m H) H x dx ∧ VwR K (hid ρ m H) H y dy ∧ g dx dy = some z ∧
  ∀ v H', Gr ρ m H ρ m H' → RelM K H' ρ m → Dt K (hid ρ m H') v z → Q v H'
def eBin (g : PyData → PyData → Option PyData) (fa fb : ME) : ME := fun e m => match fa e m with
  | some (x, m1) => match fb e m1 with
    | some (y, m2) => match vw m2 x, vw m2 y with
      | some dx, some dy => match g dx dy with
        | some z => some (.d z, m2)
        | none => none
      | _, _ => none
    | none => none
  | none => none
theorem eBin_some {g : PyData → PyData → Option PyData} {fa fb : ME} {e : Env'} {m m' : Mem} {r : EV} (h : eBin g fa fb e m = some (r, m')) :
    ∃ x m1 y dx dy z, fa e m = some (x, m1) ∧ fb e m1 = some (y, m') ∧ vw m' x = some dx ∧ vw m' y = some dy ∧ g dx dy = some z ∧ r = .d z := by
  unfold eBin at h
  cases q1 : fa e m with
  | none => rw [q1] at h; cases h
  | some p =>
    obtain ⟨x, m1⟩ := p
    rw [q1] at h; dsimp only at h
    cases q2 : fb e m1 with
    | none => rw [q2] at h; cases h
    | some p =>
      obtain ⟨y, m2⟩ := p
      rw [q2] at h; dsimp only at h
      cases q3 : vw m2 x with
      | none => rw [q3] at h; cases h
      | some dx =>
        cases q4 : vw m2 y with
        | none => rw [q3, q4] at h; cases h
        | some dy =>
          rw [q3, q4] at h; dsimp only at h
          cases q5 : g dx dy with
          | none => rw [q5] at h; cases h
          | some z => rw [q5] at h; cases h; exact ⟨x, m1, y, dx, dy, z, rfl, q2, q3, q4, q5, rfl⟩
section
variable {X : Cx} {pos : Pos} {a b : Expr} {fa fb : ME}
theorem rd_bin {K : Frg} {g : PyData → PyData → Option PyData} {σ : L2.St} {H : Hp} {Q : VK} (h : rd K (eBin g fa fb) σ H Q) : tOp (rop K g) (rd K fa) (rd K fb) σ H Q := by
  obtain ⟨ρ, e, m, R, E, r, m', hr, k⟩ := h
  obtain ⟨x, m1, y, dx, dy, z, q1, q2, q3, q4, q5, rfl⟩ := eBin_some hr
  refine rd_mk R E q1 fun v1 H1 ρ1 g1 R1 E1 r1 => ?_
  refine rd_mk R1 E1 q2 fun v2 H2 ρ2 g2 R2 E2 r2 => ?_
  exact ⟨ρ2, m', dx, dy, z, R2, vw_of R2 (r1.gr g2) q3, vw_of R2 r2 q4, q5, fun v H' g3 R' hv => k v H' ρ2 ((g1.trans g2).trans g3) R' hv⟩
theorem q_bin {op : Operator} {g : PyData → PyData → Option PyData} (ho : OpR X (binaryOp op) (rop X.K g)) (ha : PE X a (rd X.K fa)) (hb : PE X b (rd X.K fb)) : PE X (.BinOp a op b pos) (rd X.K (eBin g fa fb)) :=
  PE.imp (pe_op ho ha hb) fun _ _ _ h => rd_bin h
theorem q_cmp {op : CmpOp} {g : PyData → PyData → Option PyData} (ho : OpR X (compareOp op) (rop X.K g)) (ha : PE X a (rd X.K fa)) (hb : PE X b (rd X.K fb)) (hm : behindInMarks op b = false := by first | exact nobehind _ (by decide) (by decide) | rfl) :
    PE X (.Compare a [op] [b] pos) (rd X.K (eBin g fa fb)) :=
  PE.imp (pe_cmpR ho ha hb hm) fun _ _ _ h => rd_bin h

/-- an old value, at the heap as it stands -/
theorem rop_k {K : Frg} {ρ : List Addr} {m : Mem} {H : Hp} {z : PyData} {Q : VK} {v : V} (R : RelM K H ρ m) (k : ∀ v H', Gr ρ m H ρ m H' → RelM K H' ρ m → Dt K (hid ρ m H') v z → Q v H') (h : Dt K (hid ρ m H) v z) : Q v H := k v H .refl R h
/-- a new list -/
theorem rop_new {K : Frg} {ρ : List Addr} {m : Mem} {H : Hp} {zs : List PyData} {xs : List V} {Q : VK} {p : Addr} (R : RelM K H ρ m) (k : ∀ v H', Gr ρ m H ρ m H' → RelM K H' ρ m → Dt K (hid ρ m H') v (.list zs) → Q v H')
    (h : DtA K (hid ρ m H) xs zs) (hp : H p = none) : Q (.ref p) (upd H p (.lst xs)) := by
  obtain ⟨R', g, e⟩ := R.new (o := .lst xs) hp
  exact k _ _ g R' (.lst e (DtA.mono g.same _ h))
theorem rop_newT {K : Frg} {ρ : List Addr} {m : Mem} {H : Hp} {zs : List PyData} {xs : List V} {Q : VK} {p : Addr} (R : RelM K H ρ m) (k : ∀ v H', Gr ρ m H ρ m H' → RelM K H' ρ m → Dt K (hid ρ m H') v (.tuple zs) → Q v H')
    (h : DtA K (hid ρ m H) xs zs) (hp : H p = none) : Q (.ref p) (upd H p (.tup xs)) := by
  obtain ⟨R', g, e⟩ := R.new (o := .tup xs) hp
  exact k _ _ g R' (.tup (.inl (.inl e)) (DtA.mono g.same _ h))

/-! ### + - * // % -/
def addD : PyData → PyData → Option PyData
  | .int i, .int j => some (.int (i + j))
  | .str i, .str j => if i.length + j.length ≤ sizeLine then some (.str (i ++ j)) else none
  | .list i, .list j => if i.length + j.length ≤ sizeLine then some (.list (i ++ j)) else none
  | .tuple i, .tuple j => if i.length + j.length ≤ sizeLine then some (.tuple (i ++ j)) else none
  | .bool i, .int j => some (.int ((if i = true then (1 : Int) else 0) + j))
  | _, _ => none
theorem od_add : OpR X (binaryOp .Add) (rop X.K addD) := by
  intro pins s σ H x y v u Q I rx ry h
  obtain ⟨ρ, m, dx, dy, z, R, hx, hy, hz, k⟩ := h
  unfold addD at hz
  split at hz
  · cases hz
    cases hx.int; cases hy.int
    exact op_add pins s σ H _ _ v u Q I rx ry ⟨_, _, rfl, rfl, rop_k R k (.int _)⟩
  · split at hz
    · cases hz
      cases hx.str; cases hy.str
      exact op_add_str pins s σ H _ _ v u Q I rx ry ⟨_, _, rfl, rfl, by assumption, rop_k R k (.str _)⟩
    · cases hz
  · split at hz
    · cases hz
      rename_i hl
      obtain ⟨a, xs, rfl, h1, h2⟩ := hx.list hid_le
      obtain ⟨b, ys, rfl, h3, h4⟩ := hy.list hid_le
      exact op_cat pins s σ H _ _ v u Q I rx ry ⟨a, b, xs, ys, rfl, rfl, h1, h3, by rw [h2.len, h4.len]; exact hl, fun p hp => rop_new R k (h2.app h4) hp⟩
    · cases hz
  · split at hz
    · cases hz
      rename_i hl
      have hx0 := hx
      have hy0 := hy
      cases hx with
      | d hx =>
      cases hy with
      | d hy =>
      cases hx with
      | @tup a xs _ h1 h2 =>
      cases hy with
      | @tup b ys _ h3 h4 =>
      refine op_catA pins s σ H _ _ v u Q I rx ry ⟨a, b, xs, ys, rfl, rfl, sqt_same hid_le h1, sqt_same hid_le h3, by rw [h2.len, h4.len]; exact hl, fun e => ?_, fun _ e => ?_, fun _ _ p hp => rop_newT R k (h2.app h4) hp⟩
      · subst e
        cases h2
        exact rop_k R k (.tup h3 h4)
      · subst e
        cases h4
        refine rop_k R k ?_
        rw [List.append_nil]
        exact .tup h1 h2
    · cases hz
  · cases hz
    cases hx.bl; cases hy.int
    cases rx
    obtain ⟨t', rfl⟩ := ry
    exact IntBool.add_bool_int ⟨.int _, H, I.tok _, ⟨_, rfl⟩, rop_k R k (.int _)⟩
  · cases hz
def subD : PyData → PyData → Option PyData
  | .int i, .int j => some (.int (i - j))
  | .bool i, .int j => some (.int ((if i = true then (1 : Int) else 0) - j))
  | .int i, .bool j => some (.int (i - if j = true then (1 : Int) else 0))
  | _, _ => none
theorem od_sub : OpR X (binaryOp .Sub) (rop X.K subD) := by
  intro pins s σ H x y v u Q I rx ry h
  obtain ⟨ρ, m, dx, dy, z, R, hx, hy, hz, k⟩ := h
  unfold subD at hz
  split at hz
  · cases hz
    cases hx.int; cases hy.int
    exact op_sub pins s σ H _ _ v u Q I rx ry ⟨_, _, rfl, rfl, rop_k R k (.int _)⟩
  · cases hz
    cases hx.bl; cases hy.int
    cases rx
    obtain ⟨t', rfl⟩ := ry
    exact IntBool.sub_bool_int ⟨.int _, H, I.tok _, ⟨_, rfl⟩, rop_k R k (.int _)⟩
  · cases hz
    cases hx.int; cases hy.bl
    cases ry
    obtain ⟨t, rfl⟩ := rx
    exact IntBool.sub_int_bool ⟨.int _, H, I.tok _, ⟨_, rfl⟩, rop_k R k (.int _)⟩
  · cases hz
/-- the times of a list or a tuple: few -/
def mulD : PyData → PyData → Option PyData
  | .int i, .int j => if i.natAbs.log2 + j.natAbs.log2 < 1000000 then some (.int (i * j)) else none
  | .list xs, .int k => if 2 ≤ k ∧ k ≤ 1000 ∧ xs.length ≤ 1000 then some (.list (List.replicate k.toNat xs).flatten) else none
  | .tuple xs, .int k => if 2 ≤ k ∧ k ≤ 1000 ∧ xs.length ≤ 1000 ∧ xs ≠ [] then some (.tuple (List.replicate k.toNat xs).flatten) else none
  | .int i, .bool j => some (.int (i * if j = true then (1 : Int) else 0))
  | _, _ => none
theorem DtA.rep {K : Frg} {G : Hp} {vs : List V} {ds : List PyData} (h : DtA K G vs ds) : ∀ n : Nat, DtA K G (List.replicate n vs).flatten (List.replicate n ds).flatten
  | 0 => .nil
  | n + 1 => by rw [List.replicate_succ, List.replicate_succ, List.flatten_cons, List.flatten_cons]; exact h.app (DtA.rep h n)
theorem od_mul : OpR X (binaryOp .Mult) (rop X.K mulD) := by
  intro pins s σ H x y v u Q I rx ry h
  obtain ⟨ρ, m, dx, dy, z, R, hx, hy, hz, k⟩ := h
  unfold mulD at hz
  split at hz
  · split at hz
    · cases hz
      cases hx.int; cases hy.int
      exact op_mulW pins s σ H _ _ v u Q I rx ry ⟨_, _, rfl, rfl, by assumption, rop_k R k (.int _)⟩
    · cases hz
  · split at hz
    · cases hz
      rename_i hl
      cases hy.int
      obtain ⟨a, xs, rfl, h1, h2⟩ := hx.list hid_le
      refine op_rep pins s σ H _ _ v u Q I rx ry ⟨a, _, xs, rfl, rfl, h1, by omega, by omega, ?_, fun p hp => ?_⟩
      · rw [h2.len, sizeLine_eq]
        exact Nat.le_trans (Nat.mul_le_mul hl.2.2 (show _ ≤ 1000 by omega)) (by decide)
      · exact rop_new R k (h2.rep _) hp
    · cases hz
  · split at hz
    · cases hz
      rename_i hl
      cases hy.int
      obtain ⟨a, xs, rfl, h1, h2⟩ := hx.tuple hid_le
      refine op_repT pins s σ H _ _ v u Q I rx ry ⟨a, _, xs, rfl, rfl, h1, ?_, hl.1, hl.2.1, by rw [h2.len]; exact hl.2.2.1, fun p hp => ?_⟩
      · intro e
        subst e
        cases h2
        exact hl.2.2.2 rfl
      · exact rop_newT R k (h2.rep _) hp
    · cases hz
  · cases hz
    cases hx.int; cases hy.bl
    cases ry
    obtain ⟨t, rfl⟩ := rx
    exact IntBool.mul_int_bool ⟨.int _, H, I.tok _, ⟨_, rfl⟩, rop_k R k (.int _)⟩
  · cases hz
def fdivD : PyData → PyData → Option PyData
  | .int i, .int j => if 0 < j ∧ j.natAbs.log2 < 9000 then some (.int (i / j)) else none
  | _, _ => none
theorem od_fdiv : OpR X (binaryOp .FloorDiv) (rop X.K fdivD) := by
  intro pins s σ H x y v u Q I rx ry h
  obtain ⟨ρ, m, dx, dy, z, R, hx, hy, hz, k⟩ := h
  unfold fdivD at hz
  split at hz
  · split at hz
    · cases hz
      cases hx.int; cases hy.int
      exact op_fdivW pins s σ H _ _ v u Q I rx ry ⟨_, _, rfl, rfl, by assumption, rop_k R k (.int _)⟩
    · cases hz
  · cases hz
def modD : PyData → PyData → Option PyData
  | .int i, .int j => if 0 < j then some (.int (i % j)) else none
  | _, _ => none
theorem od_mod : OpR X (binaryOp .Mod) (rop X.K modD) := by
  intro pins s σ H x y v u Q I rx ry h
  obtain ⟨ρ, m, dx, dy, z, R, hx, hy, hz, k⟩ := h
  unfold modD at hz
  split at hz
  · split at hz
    · cases hz
      cases hx.int; cases hy.int
      exact op_mod pins s σ H _ _ v u Q I rx ry ⟨_, _, rfl, rfl, by assumption, rop_k R k (.int _)⟩
    · cases hz
  · cases hz
def powD : PyData → PyData → Option PyData
  | .int i, .int j => if 0 ≤ j ∧ j ≤ 1000000 ∧ i.natAbs < 2 ^ 64 then some (.int (i ^ j.toNat)) else none
  | _, _ => none
theorem od_pow : OpR X (binaryOp .Pow) (rop X.K powD) := by
  intro pins s σ H x y v u Q I rx ry h
  obtain ⟨ρ, m, dx, dy, z, R, hx, hy, hz, k⟩ := h
  unfold powD at hz
  split at hz
  · split at hz
    · cases hz
      cases hx.int; cases hy.int
      exact op_pow pins s σ H _ _ v u Q I rx ry ⟨_, _, rfl, rfl, by assumption, rop_k R k (.int _)⟩
    · cases hz
  · cases hz

/-! ### comparisons -/
def cmpI (p : Int → Int → Bool) : PyData → PyData → Option PyData
  | .int i, .int j => some (.bool (p i j))
  | _, _ => none
theorem od_cmpI {op : CmpOp} {p : Int → Int → Bool} (ho : OpR X (compareOp op) (rI0 fun i j => .bl (p i j))) : OpR X (compareOp op) (rop X.K (cmpI p)) := by
  intro pins s σ H x y v u Q I rx ry h
  obtain ⟨ρ, m, dx, dy, z, R, hx, hy, hz, k⟩ := h
  unfold cmpI at hz
  split at hz
  · cases hz
    cases hx.int; cases hy.int
    exact ho pins s σ H _ _ v u Q I rx ry ⟨_, _, rfl, rfl, rop_k R k (.bl _)⟩
  · cases hz
abbrev ltD := cmpI fun i j => decide (i < j)
abbrev leD := cmpI fun i j => decide (i ≤ j)
abbrev gtD := cmpI fun i j => decide (j < i)
abbrev geD := cmpI fun i j => decide (j ≤ i)
theorem od_lt : OpR X (compareOp .Lt) (rop X.K ltD) := od_cmpI op_lt
theorem od_le : OpR X (compareOp .LtE) (rop X.K leD) := od_cmpI op_le
theorem od_gt : OpR X (compareOp .Gt) (rop X.K gtD) := od_cmpI op_gt
theorem od_ge : OpR X (compareOp .GtE) (rop X.K geD) := od_cmpI op_ge
mutual
theorem Dt.dp {K : Frg} {G : Hp} : ∀ (d : PyData) {v : V}, d.canLay0 = true → Dt K G v d → Dp K G v d
  | .none, _, _, h => by cases h; exact .non
  | .bool b, _, _, h => by cases h; exact .bl b
  | .int i, _, _, h => by cases h; exact .int i
  | .str x, _, _, h => by cases h; exact .str x
  | .list ds, _, c, h => by
    cases h with
    | lst h q => exact .lst (.inl (.inl h)) (DtA.dp ds (by simpa only [PyData.canLay0] using c) q)
  | .tuple ds, _, c, h => by
    cases h with
    | tup h q => exact .tup h (DtA.dp ds (by simpa only [PyData.canLay0] using c) q)
  | .dict ds, _, c, h => by simp [PyData.canLay0] at c
theorem DtA.dp {K : Frg} {G : Hp} : ∀ (ds : List PyData) {vs : List V}, PyData.canLayAll0 ds = true → DtA K G vs ds → DpAll K G vs ds
  | [], _, _, h => by cases h; exact .nil
  | d :: ds, _, c, h => by
    simp only [PyData.canLayAll0, Bool.and_eq_true] at c
    cases h with
    | cons h q => exact .cons (Dt.dp d c.1 h) (DtA.dp ds c.2 q)
end
/-- a list of something beside the empty list -/
def vsNil : PyData → PyData → Bool
  | .list (_ :: _), .list [] => true
  | _, _ => false
def eqD : PyData → PyData → Option PyData := fun x y => if SeqAt.shaped x = true ∧ SeqAt.shaped y = true then some (.bool (PyData.eqv x y)) else if vsNil x y = true then some (.bool false) else match x, y with
  | .str a, .str b => some (.bool (a == b))
  | .tuple (_ :: _), .tuple [] => some (.bool false)
  | _, _ => none
def neD : PyData → PyData → Option PyData := fun x y => if SeqAt.shaped x = true ∧ SeqAt.shaped y = true then some (.bool (!PyData.eqv x y)) else if vsNil x y = true then some (.bool true) else match x, y with
  | .str a, .str b => some (.bool (!(a == b)))
  | _, _ => none
theorem vsNil_v {K : Frg} {H : Hp} {x y : V} {dx dy : PyData} (h : vsNil dx dy = true) (hx : Dt K H x dx) (hy : Dt K H y dy) : ∃ a b v vs, x = .ref a ∧ y = .ref b ∧ H a = some (.lst (v :: vs)) ∧ H b = some (.lst []) := by
  unfold vsNil at h
  split at h
  · cases hx with
    | lst h1 q1 =>
    cases hy with
    | lst h2 q2 =>
    cases q1
    cases q2
    exact ⟨_, _, _, _, rfl, rfl, h1, h2⟩
  · cases h
theorem canLay_sh {d : PyData} (h : SeqAt.shaped d = true) : d.canLay0 = true := SeqAt.canLay_of_shaped h
/-- of two things, looked at as a whole -/
def ropF (K : Frg) (g : PyData → PyData → Option PyData) : R2 := fun x y H Q => ∃ ρ m dx dy z, RelM K H ρ m ∧ Dt K H x dx ∧ Dt K H y dy ∧ g dx dy = some z ∧
  ∀ v H', Gr ρ m H ρ m H' → RelM K H' ρ m → Dt K (hid ρ m H') v z → Q v H'
def eBinF (g : PyData → PyData → Option PyData) (fa fb : ME) : ME := fun e m => match fa e m with
  | some (x, m1) => match fb e m1 with
    | some (y, m2) => match vwF m2 x, vwF m2 y with
      | some dx, some dy => match g dx dy with
        | some z => some (.d z, m2)
        | none => none
      | _, _ => none
    | none => none
  | none => none
theorem rd_binF {K : Frg} {g : PyData → PyData → Option PyData} {σ : L2.St} {H : Hp} {Q : VK} (h : rd K (eBinF g fa fb) σ H Q) : tOp (ropF K g) (rd K fa) (rd K fb) σ H Q := by
  obtain ⟨ρ, e, m, R, E, r, m', hr, k⟩ := h
  unfold eBinF at hr
  split at hr
  case h_2 => cases hr
  rename_i x m1 q1
  split at hr
  case h_2 => cases hr
  rename_i y m2 q2
  split at hr
  case h_2 => cases hr
  rename_i dx dy q3 q4
  split at hr
  case h_2 => cases hr
  rename_i z q5
  cases hr
  refine rd_mk R E q1 fun v1 H1 ρ1 g1 R1 E1 r1 => ?_
  refine rd_mk R1 E1 q2 fun v2 H2 ρ2 g2 R2 E2 r2 => ?_
  exact ⟨ρ2, _, dx, dy, z, R2, vwF_of R2 _ (r1.gr g2) q3, vwF_of R2 _ r2 q4, q5, fun v H' g3 R' hv => k v H' ρ2 ((g1.trans g2).trans g3) R' hv⟩
theorem q_cmpF {op : CmpOp} {g : PyData → PyData → Option PyData} (ho : OpR X (compareOp op) (ropF X.K g)) (ha : PE X a (rd X.K fa)) (hb : PE X b (rd X.K fb)) (hm : behindInMarks op b = false := by first | exact nobehind _ (by decide) (by decide) | rfl) :
    PE X (.Compare a [op] [b] pos) (rd X.K (eBinF g fa fb)) :=
  PE.imp (pe_cmpR ho ha hb hm) fun _ _ _ h => rd_binF h
theorem od_eq (hu : X.A.units + 64 < cLine) : OpR X (compareOp .Eq) (ropF X.K eqD) := by
  intro pins s σ H x y v u Q I rx ry h
  obtain ⟨ρ, m, dx, dy, z, R, hx, hy, hz, k⟩ := h
  unfold eqD at hz
  split at hz
  · cases hz
    rename_i hs
    exact op_eqD hu pins s σ H _ _ v u Q I rx ry ⟨dx, dy, Dt.dp dx (canLay_sh hs.1) hx, Dt.dp dy (canLay_sh hs.2) hy, hs.1, hs.2, rop_k R k (.bl _)⟩
  · split at hz
    · rename_i hn
      cases hz
      obtain ⟨a, b, z, zs, rfl, rfl, h1, h2⟩ := vsNil_v hn hx hy
      cases rx
      cases ry
      obtain ⟨i1, r1, l1, _⟩ := I.list (.inl (.inl h1) : SqL X.K H a (z :: zs))
      obtain ⟨i2, r2, l2, _⟩ := I.list (.inl (.inl h2) : SqL X.K H b [])
      cases r2
      have hl := r1.length
      have hsz : (i1.toArray.size != ([] : List Value).toArray.size) = true := by
        rw [List.size_toArray, ← hl]
        rfl
      exact SeqAt.eq_list_lengthsAt l1.isList l2.isList hsz (by omega) ⟨.bl false, H, I, rfl, rop_k R k (.bl _)⟩
    · split at hz
      · cases hz
        cases hx; cases hy
        exact op_eq pins s σ H _ _ v u Q I rx ry ⟨rfl, by rw [dec_str]; exact rop_k R k (.bl _)⟩
      · cases hz
        cases hx with
        | tup h1 q1 =>
        cases hy with
        | tup h2 q2 =>
        cases q1 with
        | cons q1a q1b =>
        cases q2
        cases rx
        cases ry
        obtain ⟨i1, r1, l1, _⟩ := I.tuple h1
        obtain ⟨i2, r2, l2, _⟩ := I.tuple h2
        cases r2
        have hl := r1.length
        obtain ⟨o1, e1, c1, n1, d1⟩ := l1
        obtain ⟨o2, e2, c2, n2, d2⟩ := l2
        refine SeqAt.eq_tupleAt (e := fun _ => true) ⟨o1, e1, c1, n1, d1⟩ ⟨o2, e2, c2, n2, d2⟩ (by omega) (fun j _ h2 => by simp at h2) ?_
        have hf : ((List.range (min i1.toArray.size ([] : List Value).toArray.size)).all (fun _ => true) && i1.toArray.size == ([] : List Value).toArray.size) = false := by
          rw [List.size_toArray, ← hl]
          simp
        rw [hf]
        exact ⟨.bl false, H, I, rfl, rop_k R k (.bl _)⟩
      · cases hz
theorem od_ne (hu : X.A.units + 64 < cLine) : OpR X (compareOp .NotEq) (ropF X.K neD) := by
  intro pins s σ H x y v u Q I rx ry h
  obtain ⟨ρ, m, dx, dy, z, R, hx, hy, hz, k⟩ := h
  unfold neD at hz
  split at hz
  · cases hz
    rename_i hs
    exact op_neD hu pins s σ H _ _ v u Q I rx ry ⟨dx, dy, Dt.dp dx (canLay_sh hs.1) hx, Dt.dp dy (canLay_sh hs.2) hy, hs.1, hs.2, rop_k R k (.bl _)⟩
  · split at hz
    · rename_i hn
      cases hz
      obtain ⟨a, b, z, zs, rfl, rfl, h1, h2⟩ := vsNil_v hn hx hy
      cases rx
      cases ry
      obtain ⟨i1, r1, l1, _⟩ := I.list (.inl (.inl h1) : SqL X.K H a (z :: zs))
      obtain ⟨i2, r2, l2, _⟩ := I.list (.inl (.inl h2) : SqL X.K H b [])
      cases r2
      have hl := r1.length
      have hsz : (i1.toArray.size != ([] : List Value).toArray.size) = true := by
        rw [List.size_toArray, ← hl]
        rfl
      exact SeqAt.RcNeAt.lists_lengths l1.isList l2.isList hsz (by omega) _ _ _ _ ⟨.bl true, H, I, rfl, rop_k R k (.bl _)⟩
    · split at hz
      · cases hz
        cases hx; cases hy
        exact op_ne pins s σ H _ _ v u Q I rx ry ⟨rfl, by rw [dec_str]; exact rop_k R k (.bl _)⟩
      · cases hz

end
end DL
set_option Elab.async false
set_option linter.all false
set_option maxRecDepth 100000
set_option maxHeartbeats 4000000
namespace DL
open PySem PySem.Spec PyProof.Rows L2

/-! ### in, not in -/
def flatD : PyData → Bool
  | .none | .bool _ | .int _ | .str _ => true
  | _ => false
def memD (x : PyData) (ys : List PyData) : Bool := ys.any fun y => PyData.eqv y x
def inD : PyData → PyData → Option PyData
  | .str i, .str j => match i.cps.toList with
    | [c] => some (.bool (decide (c ∈ j.cps.toList)))
    | _ => none
  | x, .list ys => if flatD x = true ∧ ys.all flatD = true then some (.bool (memD x ys)) else none
  | x, .tuple ys => if flatD x = true ∧ ys.all flatD = true then some (.bool (memD x ys)) else none
  | _, _ => none
def negD : Option PyData → Option PyData
  | some (.bool b) => some (.bool (!b))
  | _ => none
def notinD : PyData → PyData → Option PyData := fun x y => negD (inD x y)
section
variable {K : Frg} {G : Hp}
theorem flat_v {v : V} {d : PyData} (h : Dt K G v d) (f : flatD d = true) : flatV v = true := by
  cases h <;> first | rfl | cases f
theorem flat_eqv {v w : V} {d e : PyData} (h : Dt K G v d) (h' : Dt K G w e) (f : flatD d = true) (f' : flatD e = true) : eqV v w = PyData.eqv d e := by
  cases h <;> first
    | (cases f; done)
    | (cases h' <;> first
        | (cases f'; done)
        | rfl
        | simp [eqV, PyData.eqv])
theorem flat_all : ∀ {vs : List V} {ds : List PyData}, DtA K G vs ds → ds.all flatD = true → vs.all flatV = true
  | _, _, .nil, _ => rfl
  | _, _, .cons h q, f => by
    rw [List.all_cons, Bool.and_eq_true] at f
    rw [List.all_cons, flat_v h f.1, flat_all q f.2]; rfl
theorem flat_mem {v : V} {d : PyData} (h : Dt K G v d) (f : flatD d = true) : ∀ {vs : List V} {ds : List PyData}, DtA K G vs ds → ds.all flatD = true → inV v vs = memD d ds
  | _, _, .nil, _ => rfl
  | _, _, .cons (v := w) (d := e) h' q, f' => by
    rw [List.all_cons, Bool.and_eq_true] at f'
    have ih := flat_mem h f q f'.2
    unfold inV memD at ih ⊢
    rw [List.any_cons, List.any_cons, ih, flat_eqv h' h f'.1 f]
end
theorem one_sign {i : Str} {c : Nat} (h : i.cps.toList = [c]) : i = ⟨#[c]⟩ := by
  obtain ⟨a⟩ := i
  have : a = [c].toArray := by rw [← h]
  rw [this]
section
variable {X : Cx}
theorem od_in0 {neg : Bool} {op : CmpOp} (hs : OpR X (compareOp op) (fun x y H Q => ∃ (c : Nat) (z : Str), x = .str ⟨#[c]⟩ ∧ y = .str z ∧ Q (.bl (if neg then !decide (c ∈ z.cps.toList) else decide (c ∈ z.cps.toList))) H))
    (hq : OpR X (compareOp op) (rIn X.K neg)) : OpR X (compareOp op) (rop X.K fun x y => if neg then negD (inD x y) else inD x y) := by
  intro pins s σ H x y v u Q I rx ry h
  obtain ⟨ρ, m, dx, dy, z, R, hx, hy, hz, k⟩ := h
  dsimp only at hz
  have fin : ∀ b : Bool, inD dx dy = some (.bool b) → z = .bool (if neg then !b else b) := fun b e => by
    rw [e] at hz
    cases neg <;> (cases hz; rfl)
  cases q : inD dx dy with
  | none => rw [q] at hz; cases neg <;> cases hz
  | some r =>
    have hq0 := q
    unfold inD at q
    split at q
    · split at q
      · rename_i c hc
        cases q
        rw [fin _ hq0] at k
        cases hx.str; cases hy.str
        refine hs pins s σ H _ _ v u Q I rx ry ⟨c, _, congrArg V.str (one_sign hc), rfl, ?_⟩
        exact rop_k R k (.bl _)
      · cases q
    · split at q
      · rename_i hf
        cases q
        rw [fin _ hq0] at k
        obtain ⟨a, xs, rfl, h1, h2⟩ := hy.list hid_le
        have hx' := hx.full hid_le
        have h2' := DtA.mono hid_le _ h2
        refine hq pins s σ H _ _ v u Q I rx ry ⟨a, xs, rfl, .inl (.inl (.inl h1)), flat_v hx' hf.1, flat_all h2' hf.2, ?_⟩
        rw [flat_mem hx' hf.1 h2' hf.2]
        exact rop_k R k (.bl _)
      · cases q
    · split at q
      · rename_i hf
        cases q
        rw [fin _ hq0] at k
        obtain ⟨a, xs, rfl, h1, h2⟩ := hy.tuple hid_le
        have hx' := hx.full hid_le
        have h2' := DtA.mono hid_le _ h2
        refine hq pins s σ H _ _ v u Q I rx ry ⟨a, xs, rfl, .inr h1, flat_v hx' hf.1, flat_all h2' hf.2, ?_⟩
        rw [flat_mem hx' hf.1 h2' hf.2]
        exact rop_k R k (.bl _)
      · cases q
    · cases q
theorem od_in : OpR X (compareOp .In) (rop X.K inD) := od_in0 (neg := false) op_in_sign op_in_seq
theorem od_notin : OpR X (compareOp .NotIn) (rop X.K notinD) := od_in0 (neg := true) op_notIn_sign op_notIn_seq
end

/-! ### tests -/
def bOf (f : ME) : MB := fun e m => match f e m with
  | some (.d (.bool b), m1) => some (b, m1)
  | _ => none
theorem bOf_some {f : ME} {e : Env'} {m m' : Mem} {b : Bool} (h : bOf f e m = some (b, m')) : f e m = some (.d (.bool b), m') := by
  unfold bOf at h
  split at h
  · cases h; assumption
  · cases h
def truD : PyData → Option Bool
  | .none => some false
  | .bool b => some b
  | .int i => some (i != 0)
  | .str x => if x.length ≤ sizeLine then some ((x.length : Int) != 0) else none
  | .list xs => some !xs.isEmpty
  | .tuple xs => some !xs.isEmpty
  | .dict kvs => some !kvs.isEmpty
def bTru (f : ME) : MB := fun e m => match f e m with
  | some (x, m1) => match vw m1 x with
    | some d => match truD d with
      | some b => some (b, m1)
      | none => none
    | none => none
  | none => none
theorem bTru_some {f : ME} {e : Env'} {m m' : Mem} {b : Bool} (h : bTru f e m = some (b, m')) : ∃ x d, f e m = some (x, m') ∧ vw m' x = some d ∧ truD d = some b := by
  unfold bTru at h
  cases q1 : f e m with
  | none => rw [q1] at h; cases h
  | some p =>
    obtain ⟨x, m1⟩ := p
    rw [q1] at h; dsimp only at h
    cases q2 : vw m1 x with
    | none => rw [q2] at h; cases h
    | some d =>
      rw [q2] at h; dsimp only at h
      cases q3 : truD d with
      | none => rw [q3] at h; cases h
      | some b' => rw [q3] at h; cases h; exact ⟨x, d, rfl, q2, q3⟩
def bAnd (f g : MB) : MB := fun e m => match f e m with
  | some (true, m1) => g e m1
  | r => r
def bOr (f g : MB) : MB := fun e m => match f e m with
  | some (false, m1) => g e m1
  | r => r
def bNot (f : MB) : MB := fun e m => match f e m with
  | some (b, m1) => some (!b, m1)
  | none => none
def eAnd (f g : ME) : ME := fun e m => match f e m with
  | some (.d (.bool b), m1) => if b = true then g e m1 else some (.d (.bool false), m1)
  | _ => none
def eOr (f g : ME) : ME := fun e m => match f e m with
  | some (.d (.bool b), m1) => if b = true then some (.d (.bool true), m1) else g e m1
  | _ => none
def eNot (f : ME) : ME := fun e m => match f e m with
  | some (.d (.bool b), m1) => some (.d (.bool !b), m1)
  | _ => none
def eIf (c : MB) (f g : ME) : ME := fun e m => match c e m with
  | some (b, m1) => if b = true then f e m1 else g e m1
  | none => none
section
variable {K : Frg} {σ : L2.St} {H : Hp} {ρ : List Addr} {e : Env'} {m m1 m2 : Mem} {f g : ME} {c d : MB}
theorem dt_tru {G : Hp} {v : V} {x : PyData} {b : Bool} (h : Dt K G v x) (ht : truD x = some b) : TruV K v G b := by
  cases h with
  | non => cases ht; rfl
  | bl b => cases ht; rfl
  | int i => cases ht; rfl
  | str x =>
    simp only [truD] at ht
    split at ht
    · cases ht; exact ⟨by assumption, rfl⟩
    · cases ht
  | lst h q => cases ht; refine .inl ⟨_, .inl (.inl h), ?_⟩; cases q <;> rfl
  | tup h q => cases ht; refine .inr (.inl ⟨_, h, ?_⟩); cases q <;> rfl
  | dic h q => cases ht; refine .inr (.inr ⟨_, h, ?_⟩); cases q <;> rfl
end
section
variable {X : Cx} {pos : Pos} {a b : Expr} {fa fb : ME} {ca cb : MB}
theorem rb_of {K : Frg} {σ : L2.St} {H : Hp} {Q : Bool → Hp → Prop} {f : ME} (h : rb K (bOf f) σ H Q) : tB (rd K f) σ H Q := by
  obtain ⟨ρ, e, m, R, E, r, m', hr, k⟩ := h
  refine rd_mk R E (bOf_some hr) fun v H' ρ' g R' E' q => ?_
  cases q
  exact ⟨r, rfl, k H' ρ' g R'⟩
/-- a comparison as a test -/
theorem q_tcmp {op : CmpOp} {g : PyData → PyData → Option PyData} (ho : OpR X (compareOp op) (rop X.K g)) (ha : PE X a (rd X.K fa)) (hb : PE X b (rd X.K fb)) (hm : behindInMarks op b = false := by first | exact nobehind _ (by decide) (by decide) | rfl) :
    PT X (.Compare a [op] [b] pos) (rb X.K (bOf (eBin g fa fb))) :=
  PT.imp (pt_cmpR ho ha hb hm) fun σ H Q ⟨ρ, e, m, R, E, r, m', hr, k⟩ => by
    refine rd_bin ⟨ρ, e, m, R, E, _, m', bOf_some hr, fun v H' ρ' g R' q => ?_⟩
    cases q
    exact ⟨r, rfl, k H' ρ' g R'⟩
theorem q_tcmpF {op : CmpOp} {g : PyData → PyData → Option PyData} (ho : OpR X (compareOp op) (ropF X.K g)) (ha : PE X a (rd X.K fa)) (hb : PE X b (rd X.K fb)) (hm : behindInMarks op b = false := by first | exact nobehind _ (by decide) (by decide) | rfl) :
    PT X (.Compare a [op] [b] pos) (rb X.K (bOf (eBinF g fa fb))) :=
  PT.imp (pt_cmpR ho ha hb hm) fun σ H Q ⟨ρ, e, m, R, E, r, m', hr, k⟩ => by
    refine rd_binF ⟨ρ, e, m, R, E, _, m', bOf_some hr, fun v H' ρ' g R' q => ?_⟩
    cases q
    exact ⟨r, rfl, k H' ρ' g R'⟩
/-- any value as a test -/
theorem q_tru (ha : PE X a (rd X.K fa)) (he : ∀ whole, isTrue a X.env whole = (do let v ← whole; standAt a.pos; holding [v] (truthy v)) := by intro _; rfl) : PT X a (rb X.K (bTru fa)) :=
  PT.imp (pt_truth ha he) fun σ H Q ⟨ρ, e, m, R, E, r, m', hr, k⟩ => by
    obtain ⟨x, d, h1, h2, h3⟩ := bTru_some hr
    exact rd_mk R E h1 fun v H' ρ' g R' E' q => ⟨r, dt_tru ((vw_of R' q h2).full hid_le) h3, k H' ρ' g R'⟩
theorem q_tand1 (ha : PT X a (rb X.K ca)) : PW X (.BoolOp .And [a] pos) (rb X.K ca) := pw_and1 ha
theorem q_tor1 (ha : PT X a (rb X.K ca)) : PW X (.BoolOp .Or [a] pos) (rb X.K ca) := pw_or1 ha
theorem q_tand {rest : List Expr} (ha : PT X a (rb X.K ca)) (hb : PW X (.BoolOp .And (b :: rest) pos) (rb X.K cb)) : PW X (.BoolOp .And (a :: b :: rest) pos) (rb X.K (bAnd ca cb)) :=
  PW.imp (pw_and ha hb) fun σ H Q ⟨ρ, e, m, R, E, r, m', hr, k⟩ => by
    unfold bAnd at hr
    split at hr
    · rename_i m1 h1
      refine rb_mk R E h1 fun H1 ρ1 g1 R1 E1 => ?_
      rw [if_pos rfl]
      exact rb_mk R1 E1 hr fun H2 ρ2 g2 R2 E2 => k H2 ρ2 (g1.trans g2) R2
    · rename_i hne
      cases r with
      | true => exact absurd hr (hne _)
      | false =>
        refine rb_mk R E hr fun H1 ρ1 g1 R1 E1 => ?_
        rw [if_neg Bool.false_ne_true]
        exact k H1 ρ1 g1 R1
theorem q_tor {rest : List Expr} (ha : PT X a (rb X.K ca)) (hb : PW X (.BoolOp .Or (b :: rest) pos) (rb X.K cb)) : PW X (.BoolOp .Or (a :: b :: rest) pos) (rb X.K (bOr ca cb)) :=
  PW.imp (pw_or ha hb) fun σ H Q ⟨ρ, e, m, R, E, r, m', hr, k⟩ => by
    unfold bOr at hr
    split at hr
    · rename_i m1 h1
      refine rb_mk R E h1 fun H1 ρ1 g1 R1 E1 => ?_
      rw [if_neg Bool.false_ne_true]
      exact rb_mk R1 E1 hr fun H2 ρ2 g2 R2 E2 => k H2 ρ2 (g1.trans g2) R2
    · rename_i hne
      cases r with
      | false => exact absurd hr (hne _)
      | true =>
        refine rb_mk R E hr fun H1 ρ1 g1 R1 E1 => ?_
        rw [if_pos rfl]
        exact k H1 ρ1 g1 R1
theorem q_tnot (ha : PT X a (rb X.K ca)) : PT X (.UnaryOp .Not a pos) (rb X.K (bNot ca)) :=
  PT.imp (pt_not ha) fun σ H Q ⟨ρ, e, m, R, E, r, m', hr, k⟩ => by
    unfold bNot at hr
    split at hr
    · rename_i b m1 h1
      cases hr
      exact rb_mk R E h1 fun H1 ρ1 g1 R1 E1 => k H1 ρ1 g1 R1
    · cases hr
theorem q_and {rest : List Expr} (ha : PE X a (rd X.K fa)) (hb : PE X (.BoolOp .And (b :: rest) pos) (rd X.K fb)) : PE X (.BoolOp .And (a :: b :: rest) pos) (rd X.K (eAnd fa fb)) :=
  PE.imp (pe_and ha hb) fun σ H Q ⟨ρ, e, m, R, E, r, m', hr, k⟩ => by
    unfold eAnd at hr
    split at hr
    · rename_i b m1 h1
      refine rd_mk R E h1 fun v1 H1 ρ1 g1 R1 E1 r1 => ?_
      cases r1
      refine ⟨b, rfl, ?_⟩
      cases b with
      | true =>
        rw [if_pos rfl] at hr ⊢
        exact rd_mk R1 E1 hr fun v2 H2 ρ2 g2 R2 E2 r2 => k v2 H2 ρ2 (g1.trans g2) R2 r2
      | false =>
        rw [if_neg Bool.false_ne_true] at hr ⊢
        cases hr
        exact k _ H1 ρ1 g1 R1 (Dt.bl false)
    · cases hr
theorem q_or {rest : List Expr} (ha : PE X a (rd X.K fa)) (hb : PE X (.BoolOp .Or (b :: rest) pos) (rd X.K fb)) : PE X (.BoolOp .Or (a :: b :: rest) pos) (rd X.K (eOr fa fb)) :=
  PE.imp (pe_or ha hb) fun σ H Q ⟨ρ, e, m, R, E, r, m', hr, k⟩ => by
    unfold eOr at hr
    split at hr
    · rename_i b m1 h1
      refine rd_mk R E h1 fun v1 H1 ρ1 g1 R1 E1 r1 => ?_
      cases r1
      refine ⟨b, rfl, ?_⟩
      cases b with
      | false =>
        rw [if_neg Bool.false_ne_true] at hr ⊢
        exact rd_mk R1 E1 hr fun v2 H2 ρ2 g2 R2 E2 r2 => k v2 H2 ρ2 (g1.trans g2) R2 r2
      | true =>
        rw [if_pos rfl] at hr ⊢
        cases hr
        exact k _ H1 ρ1 g1 R1 (Dt.bl true)
    · cases hr
theorem q_one {op} (h : PE X a (rd X.K fa)) : PE X (.BoolOp op [a] pos) (rd X.K fa) := pe_one h
theorem q_not (ha : PE X a (rd X.K fa)) : PE X (.UnaryOp .Not a pos) (rd X.K (eNot fa)) :=
  PE.imp (pe_not ha) fun σ H Q ⟨ρ, e, m, R, E, r, m', hr, k⟩ => by
    unfold eNot at hr
    split at hr
    · rename_i b m1 h1
      cases hr
      refine rd_mk R E h1 fun v1 H1 ρ1 g1 R1 E1 r1 => ?_
      cases r1
      exact ⟨b, rfl, k _ H1 ρ1 g1 R1 (Dt.bl _)⟩
    · cases hr
theorem q_ifExp {c : Expr} (hc : PT X c (rb X.K ca)) (ha : PE X a (rd X.K fa)) (hb : PE X b (rd X.K fb)) : PE X (.IfExp c a b pos) (rd X.K (eIf ca fa fb)) :=
  PE.imp (pe_ifExp hc ha hb) fun σ H Q ⟨ρ, e, m, R, E, r, m', hr, k⟩ => by
    unfold eIf at hr
    split at hr
    · rename_i b m1 h1
      refine rb_mk R E h1 fun H1 ρ1 g1 R1 E1 => ?_
      cases b with
      | true =>
        rw [if_pos rfl] at hr ⊢
        exact rd_mk R1 E1 hr fun v2 H2 ρ2 g2 R2 E2 r2 => k v2 H2 ρ2 (g1.trans g2) R2 r2
      | false =>
        rw [if_neg Bool.false_ne_true] at hr ⊢
        exact rd_mk R1 E1 hr fun v2 H2 ρ2 g2 R2 E2 r2 => k v2 H2 ρ2 (g1.trans g2) R2 r2
    · cases hr
end

/-! ### is None -/
def isnE (neg : Bool) : EV → Bool
  | .d .none => !neg
  | _ => neg
def eIsN (neg : Bool) (f : ME) : ME := fun e m => match f e m with
  | some (x, m1) => some (.d (.bool (isnE neg x)), m1)
  | none => none
theorem isn_v {K : Frg} {G : Hp} {ρ : List Addr} {v : V} {x : EV} (h : EvR K G ρ v x) : (decide (v = .non)) = isnE false x ∧ (!decide (v = .non)) = isnE true x := by
  cases x with
  | d x =>
    have h' : Dt K G v x := h
    cases h' <;> exact ⟨rfl, rfl⟩
  | l i => obtain ⟨a, _, rfl⟩ := h; exact ⟨rfl, rfl⟩
  | f ds => obtain ⟨a, xs, rfl, _⟩ := h; exact ⟨rfl, rfl⟩
  | t xs => obtain ⟨a, vs, rfl, _⟩ := h; exact ⟨rfl, rfl⟩
  | o c fs => obtain ⟨a, C, dx, ys, rfl, _⟩ := h; exact ⟨rfl, rfl⟩
section
variable {X : Cx} {pos p' : Pos} {a : Expr} {fa : ME} {j : Nat}
theorem q_isN (ha : PE X a (rd X.K fa)) : PE X (.Compare a [.Is] [.Constant .none j p'] pos) (rd X.K (eIsN false fa)) := PE.imp (pe_cmp (pc_isN ha) rfl) fun σ H Q ⟨ρ, e, m, R, E, r, m', hr, k⟩ => by
  unfold eIsN at hr
  split at hr
  · rename_i x m1 h
    cases hr
    refine rd_mk R E h fun v H' ρ' g R' E' q => ?_
    rw [(isn_v q).1]
    exact k _ H' ρ' g R' (Dt.bl _)
  · cases hr
theorem q_notN (ha : PE X a (rd X.K fa)) : PE X (.Compare a [.IsNot] [.Constant .none j p'] pos) (rd X.K (eIsN true fa)) := PE.imp (pe_cmp (pc_notN ha) rfl) fun σ H Q ⟨ρ, e, m, R, E, r, m', hr, k⟩ => by
  unfold eIsN at hr
  split at hr
  · rename_i x m1 h
    cases hr
    refine rd_mk R E h fun v H' ρ' g R' E' q => ?_
    rw [(isn_v q).2]
    exact k _ H' ρ' g R' (Dt.bl _)
  · cases hr
theorem q_tisN (ha : PE X a (rd X.K fa)) : PT X (.Compare a [.Is] [.Constant .none j p'] pos) (rb X.K (bOf (eIsN false fa))) := PT.imp (pt_cmp (pc_isN ha) rfl) fun σ H Q ⟨ρ, e, m, R, E, r, m', hr, k⟩ => by
  have hr := bOf_some hr
  unfold eIsN at hr
  split at hr
  · rename_i x m1 h
    cases hr
    refine rd_mk R E h fun v H' ρ' g R' E' q => ?_
    refine ⟨_, rfl, ?_⟩
    rw [(isn_v q).1]
    exact k H' ρ' g R'
  · cases hr
theorem q_tnotN (ha : PE X a (rd X.K fa)) : PT X (.Compare a [.IsNot] [.Constant .none j p'] pos) (rb X.K (bOf (eIsN true fa))) := PT.imp (pt_cmp (pc_notN ha) rfl) fun σ H Q ⟨ρ, e, m, R, E, r, m', hr, k⟩ => by
  have hr := bOf_some hr
  unfold eIsN at hr
  split at hr
  · rename_i x m1 h
    cases hr
    refine rd_mk R E h fun v H' ρ' g R' E' q => ?_
    refine ⟨_, rfl, ?_⟩
    rw [(isn_v q).2]
    exact k H' ρ' g R'
  · cases hr
end

/-! ### two comparisons in a row -/
def eChain (g g' : PyData → PyData → Option PyData) (fa fb fc : ME) : ME := fun e m => match fa e m with
  | some (x, m1) => match fb e m1 with
    | some (y, m2) => match vw m2 x, vw m2 y with
      | some dx, some dy => match g dx dy with
        | some (.bool b) => if b = true then
            (match fc e m2 with
            | some (z, m3) => match vw m3 y, vw m3 z with
              | some dy', some dz => match g' dy' dz with
                | some r => some (.d r, m3)
                | none => none
              | _, _ => none
            | none => none)
          else some (.d (.bool false), m2)
        | _ => none
      | _, _ => none
    | none => none
  | none => none
section
variable {X : Cx} {pos : Pos} {a b c : Expr} {fa fb fc : ME}
theorem rd_chain {K : Frg} {g g' : PyData → PyData → Option PyData} {σ : L2.St} {H : Hp} {Q : VK} (h : rd K (eChain g g' fa fb fc) σ H Q) : tChain (rop K g) (rop K g') (rd K fa) (rd K fb) (rd K fc) σ H Q := by
  obtain ⟨ρ, e, m, R, E, r, m', hr, k⟩ := h
  unfold eChain at hr
  split at hr
  · rename_i x m1 h1
    split at hr
    · rename_i y m2 h2
      split at hr
      · rename_i dx dy h3 h4
        split at hr
        · rename_i bb h5
          refine rd_mk R E h1 fun v1 H1 ρ1 g1 R1 E1 r1 => ?_
          refine rd_mk R1 E1 h2 fun v2 H2 ρ2 g2 R2 E2 r2 => ?_
          refine ⟨ρ2, m2, dx, dy, _, R2, vw_of R2 (r1.gr g2) h3, vw_of R2 r2 h4, h5, fun v H3 g3 R3 hv => ?_⟩
          cases hv
          refine ⟨bb, rfl, ?_⟩
          have E3 := E2.gr g3
          have r3 := r2.gr g3
          cases bb with
          | false =>
            rw [if_neg Bool.false_ne_true] at hr ⊢
            cases hr
            exact k _ H3 ρ2 ((g1.trans g2).trans g3) R3 (Dt.bl false)
          | true =>
            rw [if_pos rfl] at hr ⊢
            split at hr
            · rename_i z m3 h6
              split at hr
              · rename_i dy' dz h7 h8
                split at hr
                · rename_i rr h9
                  cases hr
                  refine rd_mk R3 E3 h6 fun v4 H4 ρ4 g4 R4 E4 r4 => ?_
                  exact ⟨ρ4, _, dy', dz, rr, R4, vw_of R4 (r3.gr g4) h7, vw_of R4 r4 h8, h9, fun v H5 g5 R5 hv => k v H5 ρ4 ((((g1.trans g2).trans g3).trans g4).trans g5) R5 hv⟩
                · cases hr
              · cases hr
            · cases hr
        · cases hr
      · cases hr
    · cases hr
  · cases hr
theorem q_chain {op op' : CmpOp} {g g' : PyData → PyData → Option PyData} (ho : OpR X (compareOp op) (rop X.K g)) (ho' : OpR X (compareOp op') (rop X.K g')) (ha : PE X a (rd X.K fa)) (hb : PE X b (rd X.K fb)) (hc : PE X c (rd X.K fc))
    (hm : lastMarks [op, op'] [b, c] = false := by with_unfolding_all rfl) : PE X (.Compare a [op, op'] [b, c] pos) (rd X.K (eChain g g' fa fb fc)) :=
  PE.imp (pe_chain ho ho' ha hb hc hm) fun _ _ _ h => rd_chain h
theorem q_tchain {op op' : CmpOp} {g g' : PyData → PyData → Option PyData} (ho : OpR X (compareOp op) (rop X.K g)) (ho' : OpR X (compareOp op') (rop X.K g')) (ha : PE X a (rd X.K fa)) (hb : PE X b (rd X.K fb)) (hc : PE X c (rd X.K fc))
    (hm : lastMarks [op, op'] [b, c] = false := by with_unfolding_all rfl) : PT X (.Compare a [op, op'] [b, c] pos) (rb X.K (bOf (eChain g g' fa fb fc))) :=
  PT.imp (pt_chain ho ho' ha hb hc hm) fun σ H Q ⟨ρ, e, m, R, E, r, m', hr, k⟩ => by
    refine rd_chain ⟨ρ, e, m, R, E, _, m', bOf_some hr, fun v H' ρ' g R' q => ?_⟩
    cases q
    exact ⟨r, rfl, k H' ρ' g R'⟩
end
end DL
set_option Elab.async false
set_option linter.all false
set_option maxRecDepth 100000
set_option maxHeartbeats 4000000
namespace DL
open PySem PySem.Spec PyProof.Rows L2

/-! ### items -/
def ixD : PyData → PyData → Option PyData
  | .list xs, .int i => atI xs i
  | .tuple xs, .int i => atI xs i
  | .str s, .int i => if s.length ≤ sizeLine then (atI s.cps.toList i).map fun c => .str ⟨#[c]⟩ else none
  | _, _ => none
theorem DtA.atI {K : Frg} {G : Hp} {vs : List V} {ds : List PyData} {i : Int} {d : PyData} (h : DtA K G vs ds) (e : L2.atI ds i = some d) : ∃ v, L2.atI vs i = some v ∧ Dt K G v d := by
  unfold L2.atI at e ⊢
  rw [h.len]
  cases q : ixN ds.length i with
  | none => rw [q] at e; cases e
  | some j => rw [q] at e; exact h.get e
section
variable {X : Cx} {pos : Pos} {a b : Expr} {fa fb : ME}
theorem ixd : IxR X (rop X.K ixD) := by
  intro value slice pins s σ H x y v u Q I rx ry h hs
  obtain ⟨ρ, m, dx, dy, z, R, hx, hy, hz, k⟩ := h
  unfold ixD at hz
  split at hz
  · cases hy.int
    obtain ⟨p, xs, rfl, h1, h2⟩ := hx.list hid_le
    obtain ⟨w, h3, h4⟩ := h2.atI hz
    exact ix_list value slice pins s σ H _ _ v u Q I rx ry ⟨p, xs, _, w, rfl, rfl, .inl (.inl h1), h3, rop_k R k h4⟩ hs
  · cases hy.int
    obtain ⟨p, xs, rfl, h1, h2⟩ := hx.tuple hid_le
    obtain ⟨w, h3, h4⟩ := h2.atI hz
    exact ix_tup value slice pins s σ H _ _ v u Q I rx ry ⟨p, xs, _, w, rfl, rfl, h1, h3, rop_k R k h4⟩ hs
  · cases hy.int
    cases hx.str
    split at hz
    · rename_i hl
      cases q : L2.atI (_ : List Nat) _ with
      | none => rw [q] at hz; cases hz
      | some c =>
        rw [q] at hz
        cases hz
        exact ix_str value slice pins s σ H _ _ v u Q I rx ry ⟨_, _, c, rfl, rfl, hl, q, rop_k R k (.str _)⟩ hs
    · cases hz
  · cases hz
theorem q_ix (ha : PE X a (rd X.K fa)) (hb : PE X b (rd X.K fb)) (hs : PlainIx b := by intro _ _; rfl) : PE X (.Subscript a b pos) (rd X.K (eBin ixD fa fb)) :=
  PE.imp (pe_ix ixd ha hb hs) fun _ _ _ h => rd_bin h
end

/-! ### slices -/
def cutD {α : Type} (xs : List α) (lo hi : Option Int) : List α := (xs.drop (HT.sIx xs.length 0 lo)).take (HT.sIx xs.length xs.length hi - HT.sIx xs.length 0 lo)
def slD : PyData → Option Int → Option Int → Option PyData
  | .list xs, lo, hi => some (.list (cutD xs lo hi))
  | .tuple xs, lo, hi => some (.tuple (cutD xs lo hi))
  | .str s, lo, hi => if s.length ≤ sizeLine then some (.str (cutS s lo hi)) else none
  | _, _, _ => none
theorem DtA.cut {K : Frg} {G : Hp} {vs : List V} {ds : List PyData} {lo hi : Option Int} (h : DtA K G vs ds) : DtA K G (cutV vs lo hi) (cutD ds lo hi) := by
  unfold cutV cutD
  rw [h.len]
  exact (h.drop _).take _
theorem cut_whole {α : Type} {xs : List α} {lo hi : Option Int} (h : HT.sIx xs.length 0 lo = 0 ∧ HT.sIx xs.length xs.length hi = xs.length) : cutD xs lo hi = xs := by
  unfold cutD
  rw [h.1, h.2, List.drop_zero, Nat.sub_zero, List.take_length]
def rsl (K : Frg) : V → Option Int → Option Int → Hp → VK → Prop := fun x lo hi H Q => ∃ ρ m dx z, RelM K H ρ m ∧ VwR K (hid ρ m H) H x dx ∧ slD dx lo hi = some z ∧
  ∀ v H', Gr ρ m H ρ m H' → RelM K H' ρ m → Dt K (hid ρ m H') v z → Q v H'
theorem sld {X : Cx} : SlR X (rsl X.K) := by
  intro pins s σ H x v vl vu lo hi sl Q I rx hs pl pu h
  obtain ⟨ρ, m, dx, z, R, hx, hz, k⟩ := h
  unfold slD at hz
  split at hz
  · cases hz
    obtain ⟨p, xs, rfl, h1, h2⟩ := hx.list hid_le
    exact sl_list pins s σ H _ v vl vu lo hi sl Q I rx hs pl pu ⟨p, xs, rfl, .inl (.inl h1), fun q hq => rop_new R k h2.cut hq⟩
  · cases hz
    cases hx with
    | d hx =>
    cases hx with
    | tup h1 h2 =>
    refine sl_tupA pins s σ H _ v vl vu lo hi sl Q I rx hs pl pu ⟨_, _, rfl, sqt_same hid_le h1, fun e => ?_, fun _ q hq => rop_newT R k h2.cut hq⟩
    rw [h2.len] at e
    refine rop_k R k ?_
    rw [cut_whole e]
    exact .tup h1 h2
  · split at hz
    · cases hz
      cases hx.str
      exact sl_str pins s σ H _ v vl vu lo hi sl Q I rx hs pl pu ⟨_, rfl, by assumption, rop_k R k (.str _)⟩
    · cases hz
  · cases hz
abbrev MO' := Env' → Mem → Option (Option Int × Mem)
def ro (K : Frg) (f : MO') : TO := fun σ H Q => ∃ ρ e m, RelM K H ρ m ∧ EnvR K (hid ρ m H) ρ σ e ∧ ∃ r m', f e m = some (r, m') ∧ ∀ H' ρ', Gr ρ m H ρ' m' H' → RelM K H' ρ' m' → Q r H'
def oNo : MO' := fun _ m => some (none, m)
def oYes (f : ME) : MO' := fun e m => match f e m with
  | some (.d (.int i), m1) => some (some i, m1)
  | _ => none
theorem PO.imp {X : Cx} {e : Option Expr} {t t' : TO} (h : PO X e t) (w : ∀ σ H Q, t' σ H Q → t σ H Q) : PO X e t' := ⟨fun pins s σ H Q I q => h.run pins s σ H Q I (w _ _ _ q)⟩
def eSl (fa : ME) (lo hi : MO') : ME := fun e m => match fa e m with
  | some (x, m1) => match lo e m1 with
    | some (l, m2) => match hi e m2 with
      | some (u, m3) => match vw m3 x with
        | some d => match slD d l u with
          | some z => some (.d z, m3)
          | none => none
        | none => none
      | none => none
    | none => none
  | none => none
section
variable {X : Cx} {pos p2 : Pos} {a b : Expr} {fa fb : ME} {lo hi : Option Expr} {gl gh : MO'}
theorem q_no : PO X none (ro X.K oNo) := PO.imp po_none fun σ H Q ⟨ρ, e, m, R, E, r, m', hr, k⟩ => by
  cases hr
  exact k H ρ .refl R
theorem q_yes (ha : PE X a (rd X.K fa)) : PO X (some a) (ro X.K (oYes fa)) := PO.imp (po_some ha) fun σ H Q ⟨ρ, e, m, R, E, r, m', hr, k⟩ => by
  unfold oYes at hr
  split at hr
  · rename_i i m1 h1
    cases hr
    refine rd_mk R E h1 fun v H' ρ' g R' E' q => ?_
    cases q
    exact ⟨i, rfl, k H' ρ' g R'⟩
  · cases hr
theorem q_slice (ha : PE X a (rd X.K fa)) (hl : PO X lo (ro X.K gl)) (hh : PO X hi (ro X.K gh)) : PE X (.Subscript a (.Slice lo hi none p2) pos) (rd X.K (eSl fa gl gh)) :=
  PE.imp (pe_slice sld ha hl hh) fun σ H Q ⟨ρ, e, m, R, E, r, m', hr, k⟩ => by
    unfold eSl at hr
    split at hr
    · rename_i x m1 h1
      split at hr
      · rename_i l m2 h2
        split at hr
        · rename_i u m3 h3
          split at hr
          · rename_i d h4
            split at hr
            · rename_i z h5
              cases hr
              refine rd_mk R E h1 fun v1 H1 ρ1 g1 R1 E1 r1 => ?_
              refine ⟨ρ1, e, m1, R1, E1, l, m2, h2, fun H2 ρ2 g2 R2 => ?_⟩
              refine ⟨ρ2, e, m2, R2, E1.gr g2, u, _, h3, fun H3 ρ3 g3 R3 => ?_⟩
              exact ⟨ρ3, _, d, z, R3, vw_of R3 ((r1.gr g2).gr g3) h4, h5, fun v H4 g4 R4 hv => k v H4 ρ3 (((g1.trans g2).trans g3).trans g4) R4 hv⟩
            · cases hr
          · cases hr
        · cases hr
      · cases hr
    · cases hr
end

/-- a slice of the script -/
def eSlF (fa : ME) (lo hi : MO') : ME := fun e m => match fa e m with
  | some (.f ds, m1) => match lo e m1 with
    | some (l, m2) => match hi e m2 with
      | some (u, m3) => some (.d (.list (cutD ds l u)), m3)
      | none => none
    | none => none
  | _ => none
section
variable {X : Cx} {pos p2 : Pos} {a : Expr} {fa : ME} {lo hi : Option Expr} {gl gh : MO'}
theorem q_sliceF (ha : PE X a (rd X.K fa)) (hl : PO X lo (ro X.K gl)) (hh : PO X hi (ro X.K gh)) : PE X (.Subscript a (.Slice lo hi none p2) pos) (rd X.K (eSlF fa gl gh)) :=
  PE.imp (pe_slice sl_list ha hl hh) fun σ H Q ⟨ρ, e, m, R, E, r, m', hr, k⟩ => by
    unfold eSlF at hr
    split at hr
    case h_2 => cases hr
    rename_i ds m1 h1
    split at hr
    case h_2 => cases hr
    rename_i l m2 h2
    split at hr
    case h_2 => cases hr
    rename_i u m3 h3
    cases hr
    refine rd_mk R E h1 fun v1 H1 ρ1 g1 R1 E1 r1 => ?_
    refine ⟨ρ1, e, m1, R1, E1, l, m2, h2, fun H2 ρ2 g2 R2 => ?_⟩
    refine ⟨ρ2, e, m2, R2, E1.gr g2, u, _, h3, fun H3 ρ3 g3 R3 => ?_⟩
    obtain ⟨b, xs, rfl, b1, b2⟩ := (r1.gr g2).gr g3
    refine ⟨b, xs, rfl, hid_le.seq b1, fun p hp => ?_⟩
    exact rop_new (Q := Q) R3 (fun v H' g4 R4 hv => k v H' ρ3 (((g1.trans g2).trans g3).trans g4) R4 hv) b2.cut hp
end

/-! ### displays -/
def asD : List EV → Option (List PyData)
  | [] => some []
  | .d x :: r => (asD r).map (x :: ·)
  | .l _ :: _ => none
  | .f _ :: _ => none
  | .t _ :: _ => none
  | .o _ _ :: _ => none
theorem asD_dta {K : Frg} {G : Hp} {ρ : List Addr} : ∀ {vs : List V} {xs : List EV} {ds : List PyData}, EvA K G ρ vs xs → asD xs = some ds → DtA K G vs ds
  | _, _, _, .nil, e => by cases e; exact .nil
  | _, .d x :: xs, ds, .cons h q, e => by
    simp only [asD] at e
    cases r : asD xs with
    | none => rw [r] at e; cases e
    | some es => rw [r] at e; cases e; exact .cons h (asD_dta q r)
  | _, .l _ :: _, _, .cons h q, e => by simp [asD] at e
  | _, .f _ :: _, _, .cons h q, e => by simp [asD] at e
  | _, .t _ :: _, _, .cons h q, e => by simp [asD] at e
  | _, .o _ _ :: _, _, .cons h q, e => by simp [asD] at e
/-- [a, b, ..] as data -/
def eLst (f : MA) : ME := fun e m => match f e m with
  | some (xs, m1) => match asD xs with
    | some ds => if ds.length ≤ sizeLine then some (.d (.list ds), m1) else none
    | none => none
  | none => none
def eTup (f : MA) : ME := fun e m => match f e m with
  | some (xs, m1) => match asD xs with
    | some ds => if ds.length ≤ sizeLine then some (.d (.tuple ds), m1) else none
    | none => none
  | none => none
section
variable {X : Cx} {pos : Pos} {es : List Expr} {fa : MA}
theorem q_lst (h : PA X es (ra X.K fa)) : PE X (.List es pos) (rd X.K (eLst fa)) := PE.imp (pe_lst h) fun σ H Q ⟨ρ, e, m, R, E, r, m', hr, k⟩ => by
  unfold eLst at hr
  split at hr
  · rename_i xs m1 h1
    split at hr
    · rename_i ds h2
      split at hr
      · rename_i hl
        cases hr
        refine ra_mk R E h1 fun vs H1 ρ1 g1 R1 E1 q => ?_
        have hd := asD_dta q h2
        refine ⟨by rw [hd.len]; exact hl, fun p hp => ?_⟩
        exact rop_new (Q := Q) R1 (fun v H' g R' hv => k v H' ρ1 (g1.trans g) R' hv) hd hp
      · cases hr
    · cases hr
  · cases hr
theorem q_tup {x1} (h : PA X es (ra X.K fa)) : PE X (.Tuple es x1 pos) (rd X.K (eTup fa)) := PE.imp (pe_tup h) fun σ H Q ⟨ρ, e, m, R, E, r, m', hr, k⟩ => by
  unfold eTup at hr
  split at hr
  · rename_i xs m1 h1
    split at hr
    · rename_i ds h2
      split at hr
      · rename_i hl
        cases hr
        refine ra_mk R E h1 fun vs H1 ρ1 g1 R1 E1 q => ?_
        have hd := asD_dta q h2
        refine ⟨by rw [hd.len]; exact hl, fun p hp => ?_⟩
        exact rop_newT (Q := Q) R1 (fun v H' g R' hv => k v H' ρ1 (g1.trans g) R' hv) hd hp
      · cases hr
    · cases hr
  · cases hr
end

/-- a tuple of things of any kind, and its items by a written place -/
def eTupT (f : MA) : ME := fun e m => match f e m with
  | some (xs, m1) => if xs.length ≤ sizeLine then some (.t xs, m1) else none
  | none => none
def eIxT (f : ME) (j : Nat) : ME := fun e m => match f e m with
  | some (.t xs, m1) => match xs[j]? with
    | some x => some (x, m1)
    | none => none
  | _ => none
theorem evA_len {K : Frg} {G : Hp} {ρ : List Addr} : ∀ {vs : List V} {rs : List EV}, EvA K G ρ vs rs → vs.length = rs.length
  | _, _, .nil => rfl
  | _, _, .cons _ q => by rw [List.length_cons, List.length_cons, evA_len q]
theorem evA_get {K : Frg} {G : Hp} {ρ : List Addr} : ∀ {vs : List V} {rs : List EV} {i : Nat} {x : EV}, EvA K G ρ vs rs → rs[i]? = some x → ∃ v, vs[i]? = some v ∧ EvR K G ρ v x
  | _, _, _, _, .nil, e => by simp at e
  | _, _, 0, _, .cons h q, e => by simp at e; subst e; exact ⟨_, rfl, h⟩
  | _, _, i + 1, x, .cons _ q, e => by
    obtain ⟨v, h1, h2⟩ := evA_get (i := i) (x := x) q (by simpa using e)
    exact ⟨v, by simpa using h1, h2⟩
section
variable {X : Cx} {pos p1 : Pos} {es : List Expr} {fa : MA} {a : Expr} {f : ME} {j q : Nat}
theorem q_tupT {x1} (h : PA X es (ra X.K fa)) : PE X (.Tuple es x1 pos) (rd X.K (eTupT fa)) := PE.imp (pe_tup h) fun σ H Q ⟨ρ, e, m, R, E, r, m', hr, k⟩ => by
  unfold eTupT at hr
  split at hr
  case h_2 => cases hr
  rename_i xs m1 h1
  split at hr
  case isFalse => cases hr
  rename_i hl
  cases hr
  refine ra_mk R E h1 fun vs H1 ρ1 g1 R1 E1 q => ?_
  refine ⟨by rw [evA_len q]; exact hl, fun p hp => ?_⟩
  obtain ⟨R2, g2, e2⟩ := R1.new (o := .tup vs) hp
  exact k _ _ ρ1 (g1.trans g2) R2 ⟨p, vs, rfl, .inl (.inl e2), evA_all (q.gr g2)⟩
theorem q_ixT (ha : PE X a (rd X.K f)) : PE X (.Subscript a (.Constant (.int (j : Nat)) q p1) pos) (rd X.K (eIxT f j)) :=
  PE.imp (pe_ix ix_tup ha pe_int (fun _ _ => rfl)) fun σ H Q ⟨ρ, e, m, R, E, r, m', hr, k⟩ => by
    unfold eIxT at hr
    split at hr
    case h_2 => cases hr
    rename_i xs m1 h1
    split at hr
    case h_2 => cases hr
    rename_i x h2
    cases hr
    refine rd_mk R E h1 fun v H1 ρ1 g1 R1 E1 r1 => ?_
    obtain ⟨b, vs, rfl, b1, b2⟩ := r1
    obtain ⟨w, w1, w2⟩ := evA_get (all_evA b2) h2
    have hlt : j < vs.length := (List.getElem?_eq_some_iff.mp w1).1
    refine ⟨b, vs, _, w, rfl, rfl, sqt_same hid_le b1, ?_, k w H1 ρ1 g1 R1 w2⟩
    unfold L2.atI ixN
    rw [if_pos (by omega), if_pos (by omega)]
    exact w1
end

/-! ### the memory grows, and is cut back -/
theorem hid_take {ρ : List Addr} {m : Mem} {H : Hp} (n : Nat) : Same (hid ρ m H) (hid (ρ.take n) (m.take n) H) := fun b o h => by
  obtain ⟨h1, h2⟩ := hid_some h
  rw [hid_no, h1]
  rintro ⟨i, u, e1, e2, e3⟩
  refine h2 ⟨i, u, ?_, ?_, e3⟩
  · rw [List.getElem?_take] at e1
    split at e1
    · exact e1
    · cases e1
  · rw [List.getElem?_take] at e2
    split at e2
    · exact e2
    · cases e2
theorem RelM.take {K : Frg} {ρ : List Addr} {m : Mem} {H : Hp} (R : RelM K H ρ m) (n : Nat) : RelM K H (ρ.take n) (m.take n) := by
  refine ⟨by rw [List.length_take, List.length_take, R.len], R.nd.sublist (List.take_sublist _ _), fun a ha => R.al a (List.mem_of_mem_take ha), fun i a o h1 h2 => ?_⟩
  rw [List.getElem?_take] at h1 h2
  split at h1
  · rename_i hi
    rw [if_pos hi] at h2
    have ok := (R.ok i a o h1 h2).mono (G' := hid (ρ.take n) (m.take n) H) (ρ' := ρ) (H' := H) (hid_take n) (List.prefix_refl _) (.inl rfl)
    cases o with
    | gone => trivial
    | lst ds => exact ok
    | dct kvs => exact ok
    | ins c fs => exact ok
  · cases h1
/-- a new thing as a place of the memory -/
theorem hid_app {ρ : List Addr} {m : Mem} {H : Hp} {p : Addr} {o : MO} {u : HO} (hl : ρ.length = m.length) (hp : H p = none) : Same (hid ρ m H) (hid (ρ ++ [p]) (m ++ [o]) (upd H p u)) := fun b w h => by
  obtain ⟨h1, h2⟩ := hid_some h
  have nb : b ≠ p := ne_of_none h1 hp
  rw [hid_no, upd_ne nb, h1]
  rintro ⟨i, z, e1, e2, e3⟩
  by_cases hi : i < ρ.length
  · rw [List.getElem?_append_left hi] at e1
    rw [List.getElem?_append_left (by omega)] at e2
    exact h2 ⟨i, z, e1, e2, e3⟩
  · rw [List.getElem?_append_right (by omega)] at e1
    cases q : i - ρ.length with
    | zero => rw [q] at e1; simp at e1; exact nb e1.symm
    | succ j => rw [q] at e1; simp at e1
theorem RelM.push {K : Frg} {ρ : List Addr} {m : Mem} {H : Hp} (R : RelM K H ρ m) {p : Addr} {o : MO} {u : HO} (hp : H p = none)
    (ok : MOk K (hid (ρ ++ [p]) (m ++ [o]) (upd H p u)) (ρ ++ [p]) (upd H p u) p o) : RelM K (upd H p u) (ρ ++ [p]) (m ++ [o]) ∧ Gr ρ m H (ρ ++ [p]) (m ++ [o]) (upd H p u) := by
  have hs : Same H (upd H p u) := fun b w h => by rw [upd_ne (ne_of_none h hp)]; exact h
  have hg : Gr ρ m H (ρ ++ [p]) (m ++ [o]) (upd H p u) := ⟨List.prefix_append _ _, hid_app R.len hp⟩
  refine ⟨⟨by rw [List.length_append, List.length_append, R.len]; rfl, ?_, fun a ha => ?_, fun i a z h1 h2 => ?_⟩, hg⟩
  · rw [List.nodup_append]
    refine ⟨R.nd, by simp, fun a ha b hb e => ?_⟩
    rw [List.mem_singleton] at hb
    subst hb e
    exact R.al _ ha hp
  · rcases List.mem_append.mp ha with ha | ha
    · exact fun e => R.al a ha (hs.free e)
    · rw [List.mem_singleton] at ha
      subst ha
      rw [upd_same]
      exact fun z => nomatch z
  · by_cases hi : i < ρ.length
    · rw [List.getElem?_append_left hi] at h1
      rw [List.getElem?_append_left (by rw [← R.len]; exact hi)] at h2
      exact (R.ok i a z h1 h2).mono hg.same hg.pre (.inr hs)
    · rw [List.getElem?_append_right (by omega)] at h1
      rw [List.getElem?_append_right (by rw [← R.len]; omega), ← R.len] at h2
      cases q : i - ρ.length with
      | zero =>
        rw [q] at h1 h2
        simp at h1 h2
        subst h1 h2
        exact ok
      | succ j => rw [q] at h1; simp at h1
/-- a thing of the memory is taken as data: it never changes again -/
def eFrz (f : ME) : ME := fun e m => match f e m with
  | some (.d x, m1) => some (.d x, m1)
  | some (.l i, m1) => if i = m.length ∧ m1.length = m.length + 1 then
      (match vw m1 (.l i) with
      | some x => some (.d x, m1.take m.length)
      | none => none) else none
  | _ => none
theorem frz_dt {K : Frg} {ρ : List Addr} {m : Mem} {H : Hp} {n : Nat} {v : V} {x : PyData} (R : RelM K H ρ m) (hv : EvR K (hid ρ m H) ρ v (.l n)) (e : vw m (.l n) = some x) : Dt K (hid (ρ.take n) (m.take n) H) v x := by
  obtain ⟨a, h1, rfl⟩ := hv
  have na : ¬ Hid (ρ.take n) (m.take n) a := by
    rintro ⟨i, u, e1, _, _⟩
    rw [List.getElem?_take] at e1
    split at e1
    · rename_i hi
      have hi2 := (List.getElem?_eq_some_iff.mp e1).1
      have hn2 := (List.getElem?_eq_some_iff.mp h1).1
      have := (List.getElem?_inj hi2 R.nd).mp (e1.trans h1.symm)
      omega
    · cases e1
  simp only [vw] at e
  cases q : m[n]? with
  | none => rw [q] at e; cases e
  | some o =>
    rw [q] at e
    have ok := R.ok n a o h1 q
    cases o with
    | gone => cases e
    | lst ds =>
      cases e
      obtain ⟨xs, h2, h3⟩ := ok
      exact .lst (by rw [hid_no na]; exact h2) (DtA.mono (hid_take n) _ h3)
    | dct kvs =>
      cases e
      obtain ⟨ys, h2, h3⟩ := ok
      exact .dic (by rw [hid_no na]; exact h2) (DtK.mono (hid_take n) _ (kv_dtk h3))
    | ins c fs => cases e
theorem take_pre {ρ ρ' : List Addr} (h : ρ <+: ρ') : ρ'.take ρ.length = ρ := (List.prefix_iff_eq_take.mp h).symm
theorem q_frz {X : Cx} {a : Expr} {fa : ME} (h : PE X a (rd X.K fa)) : PE X a (rd X.K (eFrz fa)) := PE.imp h fun σ H Q ⟨ρ, e, m, R, E, r, m', hr, k⟩ => by
  unfold eFrz at hr
  split at hr
  · rename_i x m1 h1
    cases hr
    exact ⟨ρ, e, m, R, E, _, _, h1, k⟩
  · rename_i i m1 h1
    split at hr
    · rename_i hi
      obtain ⟨rfl, hl⟩ := hi
      split at hr
      · rename_i x h2
        cases hr
        refine rd_mk R E h1 fun v H1 ρ1 g1 R1 E1 r1 => ?_
        have e1 : ρ1.take m.length = ρ := by rw [← R.len]; exact take_pre g1.pre
        have R2 := R1.take m.length
        have d2 := frz_dt R1 r1 h2
        have s2 : Same (hid ρ1 m1 H1) (hid (ρ1.take m.length) (m1.take m.length) H1) := hid_take _
        rw [e1] at R2 d2 s2
        exact k v H1 ρ ⟨List.prefix_refl _, g1.same.trans s2⟩ R2 d2
      · cases hr
    · cases hr
  · cases hr
end DL
set_option Elab.async false
set_option linter.all false
set_option maxRecDepth 100000
set_option maxHeartbeats 4000000
namespace DL
open PySem PySem.Spec PyProof.Rows L2

/-! ### built-in functions, by data -/
def rcb (K : Frg) (g : Mem → List EV → Option PyData) : List V → Hp → VK → Prop := fun vs H Q => ∃ ρ m xs z, RelM K H ρ m ∧ EvA K (hid ρ m H) ρ vs xs ∧ g m xs = some z ∧
  ∀ v H', Gr ρ m H ρ m H' → RelM K H' ρ m → Dt K (hid ρ m H') v z → Q v H'
def eCB (g : Mem → List EV → Option PyData) (fa : MA) : ME := fun e m => match fa e m with
  | some (xs, m1) => match g m1 xs with
    | some z => some (.d z, m1)
    | none => none
  | none => none
section
variable {X : Cx} {x : Str} {p pos : Pos} {a : Expr} {es : List Expr} {fa : MA} {id T : String} {g : Mem → List EV → Option PyData}
theorem rd_cb {K : Frg} {σ : L2.St} {H : Hp} {Q : VK} (h : rd K (eCB g fa) σ H Q) : tCB (rcb K g) (ra K fa) σ H Q := by
  obtain ⟨ρ, e, m, R, E, r, m', hr, k⟩ := h
  unfold eCB at hr
  split at hr
  · rename_i xs m1 h1
    split at hr
    · rename_i z h2
      cases hr
      refine ra_mk R E h1 fun vs H1 ρ1 g1 R1 E1 q => ?_
      exact ⟨ρ1, _, xs, z, R1, q, h2, fun v H' g2 R2 hv => k v H' ρ1 (g1.trans g2) R2 hv⟩
    · cases hr
  · cases hr
theorem q_callB (hc : CallR X (.builtin id) (rcb X.K g)) (hg : Gl X x) (hm : X.mg x = none) (hv : bootBuiltins x = some (.builtin id)) (ha : PA X (a :: es) (ra X.K fa)) (hn : x ≠ "__name__" := by decide) (hdb : (x == ("__debug__" : Str)) = false := by decide)
    (he : starEach (a :: es) X.env = (false, eval a X.env) :: starEach es X.env := by rfl) (hpl : (backTo pos (starEach es X.env)).any (·.1) = false := by rfl) : PE X (.Call (.Name x p) (a :: es) [] pos) (rd X.K (eCB g fa)) :=
  PE.imp (pe_callB hc hg hm hv ha hn hdb he hpl) fun _ _ _ h => rd_cb h
theorem q_callTy (hc : CallR X (.type T) (rcb X.K g)) (hg : Gl X x) (hm : X.mg x = none) (hv : bootBuiltins x = some (.type T)) (ha : PA X (a :: es) (ra X.K fa)) (hn : x ≠ "__name__" := by decide) (hdb : (x == ("__debug__" : Str)) = false := by decide)
    (he : starEach (a :: es) X.env = (false, eval a X.env) :: starEach es X.env := by rfl) (hpl : (backTo pos (starEach es X.env)).any (·.1) = false := by rfl) : PE X (.Call (.Name x p) (a :: es) [] pos) (rd X.K (eCB g fa)) :=
  PE.imp (pe_callTy hc hg hm hv ha hn hdb he hpl) fun _ _ _ h => rd_cb h
end
/-- of one thing, looked at -/
def c1 (f : PyData → Option PyData) : Mem → List EV → Option PyData := fun m xs => match xs with
  | [x] => match vw m x with
    | some d => f d
    | none => none
  | _ => none
def c2 (f : PyData → PyData → Option PyData) : Mem → List EV → Option PyData := fun m xs => match xs with
  | [x, y] => match vw m x, vw m y with
    | some d, some e => f d e
    | _, _ => none
  | _ => none
theorem c1_of {K : Frg} {f : PyData → Option PyData} {vs : List V} {H : Hp} {Q : VK} (h : rcb K (c1 f) vs H Q) : ∃ ρ m v d z, vs = [v] ∧ RelM K H ρ m ∧ VwR K (hid ρ m H) H v d ∧ f d = some z ∧
    ∀ v H', Gr ρ m H ρ m H' → RelM K H' ρ m → Dt K (hid ρ m H') v z → Q v H' := by
  obtain ⟨ρ, m, xs, z, R, r, hz, k⟩ := h
  unfold c1 at hz
  split at hz
  · cases r with
    | cons r1 r2 =>
      cases r2
      split at hz
      · rename_i d hd
        exact ⟨ρ, m, _, d, z, rfl, R, vw_of R r1 hd, hz, k⟩
      · cases hz
  · cases hz
theorem c2_of {K : Frg} {f : PyData → PyData → Option PyData} {vs : List V} {H : Hp} {Q : VK} (h : rcb K (c2 f) vs H Q) : ∃ ρ m v w d e z, vs = [v, w] ∧ RelM K H ρ m ∧ VwR K (hid ρ m H) H v d ∧ VwR K (hid ρ m H) H w e ∧ f d e = some z ∧
    ∀ v H', Gr ρ m H ρ m H' → RelM K H' ρ m → Dt K (hid ρ m H') v z → Q v H' := by
  obtain ⟨ρ, m, xs, z, R, r, hz, k⟩ := h
  unfold c2 at hz
  split at hz
  · cases r with
    | cons r1 r2 =>
      cases r2 with
      | cons r2 r3 =>
        cases r3
        split at hz
        · rename_i d e hd he
          exact ⟨ρ, m, _, _, d, e, z, rfl, R, vw_of R r1 hd, vw_of R r2 he, hz, k⟩
        · cases hz
  · cases hz
def c1F (f : PyData → Option PyData) : Mem → List EV → Option PyData := fun m xs => match xs with
  | [x] => match vwF m x with
    | some d => f d
    | none => none
  | _ => none
theorem c1F_of {K : Frg} {f : PyData → Option PyData} {vs : List V} {H : Hp} {Q : VK} (h : rcb K (c1F f) vs H Q) : ∃ ρ m v d z, vs = [v] ∧ RelM K H ρ m ∧ Dt K H v d ∧ f d = some z ∧
    ∀ v H', Gr ρ m H ρ m H' → RelM K H' ρ m → Dt K (hid ρ m H') v z → Q v H' := by
  obtain ⟨ρ, m, xs, z, R, r, hz, k⟩ := h
  unfold c1F at hz
  split at hz
  · cases r with
    | cons r1 r2 =>
      cases r2
      split at hz
      · rename_i d hd
        exact ⟨ρ, m, _, d, z, rfl, R, vwF_of R _ r1 hd, hz, k⟩
      · cases hz
  · cases hz
def lenD : PyData → Option PyData
  | .list xs => some (.int xs.length)
  | .tuple xs => some (.int xs.length)
  | .str s => if s.length ≤ sizeLine then some (.int s.length) else none
  | _ => none
def asB : List PyData → Option (List Bool)
  | [] => some []
  | .bool b :: r => (asB r).map (b :: ·)
  | _ :: _ => none
def asI : List PyData → Option (List Int)
  | [] => some []
  | .int b :: r => (asI r).map (b :: ·)
  | _ :: _ => none
def asS : List PyData → Option (List Str)
  | [] => some []
  | .str b :: r => (asS r).map (b :: ·)
  | _ :: _ => none
theorem asB_v {K : Frg} {G : Hp} : ∀ {vs : List V} {ds : List PyData} {bs : List Bool}, DtA K G vs ds → asB ds = some bs → vs = bs.map V.bl
  | _, _, _, .nil, e => by cases e; rfl
  | _, d :: ds, bs, .cons h q, e => by
    unfold asB at e
    split at e
    · rename_i e1; cases e1
    · rename_i b r e1
      cases e1
      cases h
      cases w : asB ds with
      | none => rw [w] at e; cases e
      | some cs => rw [w] at e; cases e; rw [asB_v q w]; rfl
    · cases e
theorem asI_v {K : Frg} {G : Hp} : ∀ {vs : List V} {ds : List PyData} {bs : List Int}, DtA K G vs ds → asI ds = some bs → vs = bs.map V.int
  | _, _, _, .nil, e => by cases e; rfl
  | _, d :: ds, bs, .cons h q, e => by
    unfold asI at e
    split at e
    · rename_i e1; cases e1
    · rename_i b r e1
      cases e1
      cases h
      cases w : asI ds with
      | none => rw [w] at e; cases e
      | some cs => rw [w] at e; cases e; rw [asI_v q w]; rfl
    · cases e
theorem asS_v {K : Frg} {G : Hp} : ∀ {vs : List V} {ds : List PyData} {bs : List Str}, DtA K G vs ds → asS ds = some bs → vs = bs.map V.str
  | _, _, _, .nil, e => by cases e; rfl
  | _, d :: ds, bs, .cons h q, e => by
    unfold asS at e
    split at e
    · rename_i e1; cases e1
    · rename_i b r e1
      cases e1
      cases h
      cases w : asS ds with
      | none => rw [w] at e; cases e
      | some cs => rw [w] at e; cases e; rw [asS_v q w]; rfl
    · cases e
def allD : PyData → Option PyData
  | .list xs => (asB xs).map fun bs => .bool (bs.all id)
  | _ => none
def anyD : PyData → Option PyData
  | .list xs => (asB xs).map fun bs => .bool (bs.any id)
  | _ => none
def sumD : PyData → Option PyData
  | .list xs => (asI xs).map fun bs => .int bs.sum
  | _ => none
def absD : PyData → Option PyData
  | .int i => some (.int (if i < 0 then -i else i))
  | _ => none
def listD : PyData → Option PyData
  | .list xs => some (.list xs)
  | .tuple xs => some (.list xs)
  | _ => none
def tupleD : PyData → Option PyData
  | .list xs => some (.tuple xs)
  | .tuple xs => some (.tuple xs)
  | _ => none
def max2D : PyData → PyData → Option PyData
  | .int i, .int j => some (.int (if j > i then j else i))
  | _, _ => none
def min2D : PyData → PyData → Option PyData
  | .int i, .int j => some (.int (if j < i then j else i))
  | _, _ => none
section
variable {X : Cx}
theorem cd_len : CallR X (.builtin "len") (rcb X.K (c1 lenD)) := by
  intro pins s σ H xs us Q I r h
  obtain ⟨ρ, m, v, d, z, rfl, R, hd, hz, k⟩ := c1_of h
  unfold lenD at hz
  split at hz
  · cases hz
    obtain ⟨a, ys, rfl, h1, h2⟩ := hd.list hid_le
    refine call_len_seq pins s σ H _ us Q I r ⟨a, ys, rfl, .inl (.inl (.inl h1)), ?_⟩
    rw [h2.len]; exact rop_k R k (.int _)
  · cases hz
    obtain ⟨a, ys, rfl, h1, h2⟩ := hd.tuple hid_le
    refine call_len_seq pins s σ H _ us Q I r ⟨a, ys, rfl, .inr h1, ?_⟩
    rw [h2.len]; exact rop_k R k (.int _)
  · split at hz
    · cases hz
      cases hd.str
      exact call_len_str pins s σ H _ us Q I r ⟨_, rfl, by assumption, rop_k R k (.int _)⟩
    · cases hz
  · cases hz
theorem cd_all (hc : X.calm = true) : CallR X (.builtin "all") (rcb X.K (c1 allD)) := by
  intro pins s σ H xs us Q I r h
  obtain ⟨ρ, m, v, d, z, rfl, R, hd, hz, k⟩ := c1_of h
  unfold allD at hz
  split at hz
  · rename_i ds
    cases w : asB ds with
    | none => rw [w] at hz; cases hz
    | some bs =>
      rw [w] at hz
      cases hz
      obtain ⟨a, ys, rfl, h1, h2⟩ := hd.list hid_le
      cases asB_v h2 w
      exact cr_all hc pins s σ H _ us Q I r ⟨a, bs, rfl, .inl (.inl h1), rop_k R k (.bl _)⟩
  · cases hz
theorem cd_any (hc : X.calm = true) : CallR X (.builtin "any") (rcb X.K (c1 anyD)) := by
  intro pins s σ H xs us Q I r h
  obtain ⟨ρ, m, v, d, z, rfl, R, hd, hz, k⟩ := c1_of h
  unfold anyD at hz
  split at hz
  · rename_i ds
    cases w : asB ds with
    | none => rw [w] at hz; cases hz
    | some bs =>
      rw [w] at hz
      cases hz
      obtain ⟨a, ys, rfl, h1, h2⟩ := hd.list hid_le
      cases asB_v h2 w
      exact cr_any hc pins s σ H _ us Q I r ⟨a, bs, rfl, .inl (.inl h1), rop_k R k (.bl _)⟩
  · cases hz
theorem cd_sum (hc : X.calm = true) : CallR X (.builtin "sum") (rcb X.K (c1 sumD)) := by
  intro pins s σ H xs us Q I r h
  obtain ⟨ρ, m, v, d, z, rfl, R, hd, hz, k⟩ := c1_of h
  unfold sumD at hz
  split at hz
  · rename_i ds
    cases w : asI ds with
    | none => rw [w] at hz; cases hz
    | some bs =>
      rw [w] at hz
      cases hz
      obtain ⟨a, ys, rfl, h1, h2⟩ := hd.list hid_le
      cases asI_v h2 w
      exact cr_sum hc pins s σ H _ us Q I r ⟨a, bs, rfl, .inl (.inl h1), rop_k R k (.int _)⟩
  · cases hz
theorem cd_abs : CallR X (.builtin "abs") (rcb X.K (c1 absD)) := by
  intro pins s σ H xs us Q I r h
  obtain ⟨ρ, m, v, d, z, rfl, R, hd, hz, k⟩ := c1_of h
  unfold absD at hz
  split at hz
  · cases hz
    cases hd.int
    exact call_abs pins s σ H _ us Q I r ⟨_, rfl, rop_k R k (.int _)⟩
  · cases hz
theorem cd_list : CallR X (.type "list") (rcb X.K (c1 listD)) := by
  intro pins s σ H xs us Q I r h
  obtain ⟨ρ, m, v, d, z, rfl, R, hd, hz, k⟩ := c1_of h
  unfold listD at hz
  split at hz
  · cases hz
    obtain ⟨a, ys, rfl, h1, h2⟩ := hd.list hid_le
    exact call_list_of pins s σ H _ us Q I r ⟨a, ys, rfl, .inl (.inl (.inl h1)), fun l hl => rop_new R k h2 hl⟩
  · cases hz
    obtain ⟨a, ys, rfl, h1, h2⟩ := hd.tuple hid_le
    exact call_list_of pins s σ H _ us Q I r ⟨a, ys, rfl, .inr h1, fun l hl => rop_new R k h2 hl⟩
  · cases hz
theorem cd_tuple : CallR X (.type "tuple") (rcb X.K (c1 tupleD)) := by
  intro pins s σ H xs us Q I r h
  obtain ⟨ρ, m, v, d, z, rfl, R, hd, hz, k⟩ := c1_of h
  unfold tupleD at hz
  split at hz
  · cases hz
    obtain ⟨a, ys, rfl, h1, h2⟩ := hd.list hid_le
    exact call_tuple_of pins s σ H _ us Q I r ⟨a, ys, rfl, .inl ⟨.inl (.inl h1), fun l hl => rop_newT R k h2 hl⟩⟩
  · cases hz
    cases hd with
    | d hd =>
    cases hd with
    | tup h1 h2 => exact call_tuple_of pins s σ H _ us Q I r ⟨_, _, rfl, .inr ⟨sqt_same hid_le h1, rop_k R k (.tup h1 h2)⟩⟩
  · cases hz
theorem cd_max2 (hc : X.calm = true) : CallR X (.builtin "max") (rcb X.K (c2 max2D)) := by
  intro pins s σ H xs us Q I r h
  obtain ⟨ρ, m, v, w, d, e, z, rfl, R, hd, he, hz, k⟩ := c2_of h
  unfold max2D at hz
  split at hz
  · cases hz
    cases hd.int; cases he.int
    exact call_max2 hc pins s σ H _ us Q I r ⟨_, _, rfl, rop_k R k (.int _)⟩
  · cases hz
theorem cd_min2 (hc : X.calm = true) : CallR X (.builtin "min") (rcb X.K (c2 min2D)) := by
  intro pins s σ H xs us Q I r h
  obtain ⟨ρ, m, v, w, d, e, z, rfl, R, hd, he, hz, k⟩ := c2_of h
  unfold min2D at hz
  split at hz
  · cases hz
    cases hd.int; cases he.int
    exact call_min2 hc pins s σ H _ us Q I r ⟨_, _, rfl, rop_k R k (.int _)⟩
  · cases hz
/-- repr of lists and tuples of plain things, at any depth -/
def reprD : PyData → Option PyData := fun d => match d with
  | .list _ | .tuple _ => if d.canLay0 = true ∧ d.showable = true ∧ d.depth ≤ 64 ∧ d.shown.length ≤ sizeLine then some (.str d.shown) else none
  | _ => none
theorem cd_repr (hg : X.A.guards = some []) (hu : X.A.units + 65 < cLine) : CallR X (.builtin "repr") (rcb X.K (c1F reprD)) := by
  intro pins s σ H xs us Q I r h
  obtain ⟨ρ, m, v, d, z, rfl, R, hd, hz, k⟩ := c1F_of h
  obtain ⟨u, rfl, ru⟩ : ∃ u, us = [u] ∧ RelV v u := by
    cases r with
    | cons r1 r2 => cases r2; exact ⟨_, rfl, r1⟩
  have go : ∀ a : Addr, v = .ref a → d.canLay0 = true ∧ d.showable = true ∧ d.depth ≤ 64 ∧ d.shown.length ≤ sizeLine → z = .str d.shown → wpAny (model X.prog X.w) X.A (call (.builtin "repr") [u]) (EP X pins σ Q) X.xe s := by
    intro a hv c hz'
    subst hv hz'
    obtain ⟨as, hr⟩ := Dp.reads I d _ u (Dt.dp d c.1 hd) ru
    cases ru
    refine repr_of_reads' hr c.2.1 (fun hd => ?_) hg (by omega) (fun _ _ e => e) (fun h' u tk hk => ?_) c.2.2.2
    · rw [PyData.hasDict_of_canLay d c.1] at hd
      cases hd
    · exact ⟨.str d.shown, H, I.kept (t' := tk) hk, ⟨_, rfl⟩, rop_k R k (.str _)⟩
  unfold reprD at hz
  split at hz
  · split at hz
    · cases hz
      have hd' := hd
      cases hd' with | lst h q => exact go _ rfl (by assumption) rfl
    · cases hz
  · split at hz
    · cases hz
      have hd' := hd
      cases hd' with | tup h q => exact go _ rfl (by assumption) rfl
    · cases hz
  · cases hz
end

/-! ### isinstance -/
def tyD : PyData → String
  | .none => "NoneType"
  | .bool _ => "bool"
  | .int _ => "int"
  | .str _ => "str"
  | .list _ => "list"
  | .tuple _ => "tuple"
  | .dict _ => "dict"
theorem dt_ty {K : Frg} {G : Hp} {v : V} {d : PyData} (h : Dt K G v d) : TyX K G v (.type (tyD d)) := by
  cases h with
  | non => exact .base .non
  | bl b => exact .base (.bl b)
  | int i => exact .base (.int i)
  | str x => exact .base (.str x)
  | lst h q => exact .base (.lst h)
  | tup h q =>
    rcases h with (h | ⟨o, h⟩) | ⟨o, its, n, h, c, _⟩
    · exact .base (.tup h)
    · exact .fTuple h
    · exact .kTuple h c
  | dic h q => exact .base (.dK h)
def isT (t : String) (d : PyData) : Option Bool := kitB (tyD d) t
def eIs (t : String) (f : ME) : ME := fun e m => match f e m with
  | some (x, m1) => match vw m1 x with
    | some d => match isT t d with
      | some b => some (.d (.bool b), m1)
      | none => none
    | none => none
  | none => none
def isT2 (t u : String) (d : PyData) : Option Bool := match isT t d with
  | some true => some true
  | some false => isT u d
  | none => none
def eIs2 (t u : String) (f : ME) : ME := fun e m => match f e m with
  | some (x, m1) => match vw m1 x with
    | some d => match isT2 t u d with
      | some b => some (.d (.bool b), m1)
      | none => none
    | none => none
  | none => none
section
variable {X : Cx} {p p1 p2 pos : Pos} {a : Expr} {fa : ME} {t u : Str} {T U : String}
theorem q_isi (hg : Gl X "isinstance") (hm : X.mg "isinstance" = none) (hgt : Gl X t) (hmt : X.mg t = none) (hvt : bootBuiltins t = some (.type T)) (ha : PE X a (rd X.K fa)) (hn : t ≠ "__name__" := by decide) (hd : (t == ("__debug__" : Str)) = false := by decide)
    (h1 : starEach (a :: [.Name t p1]) X.env = (false, eval a X.env) :: starEach [.Name t p1] X.env := by rfl) (h2 : starEach [.Name t p1] X.env = (false, eval (.Name t p1) X.env) :: starEach [] X.env := by rfl) (hpl : (backTo pos (starEach [.Name t p1] X.env)).any (·.1) = false := by rfl) :
    PE X (.Call (.Name "isinstance" p) [a, .Name t p1] [] pos) (rd X.K (eIs T fa)) :=
  PE.imp (pe_callB call_isi hg hm boot_isinstance (pa_cons ha (pa_cons (pe_bltn hgt hmt hvt (v := .ty T) rfl hn hd) pa_nil h2) h1) (by decide) (by decide) h1 hpl) fun σ H Q ⟨ρ, e, m, R, E, r, m', hr, k⟩ => by
    unfold eIs at hr
    split at hr
    · rename_i x m1 q1
      split at hr
      · rename_i d q2
        split at hr
        · rename_i b q3
          cases hr
          refine rd_mk R E q1 fun v1 H1 ρ1 g1 R1 E1 r1 => ?_
          have hd := (vw_of R1 r1 q2).full hid_le
          exact ⟨v1, .ty T, _, .type T, b, rfl, .ty T, dt_ty hd, kit_ty q3, k _ H1 ρ1 g1 R1 (Dt.bl b)⟩
        · cases hr
      · cases hr
    · cases hr
theorem q_isi2 {kp : Nat} {p3 : Pos} (hg : Gl X "isinstance") (hm : X.mg "isinstance" = none) (hgt : Gl X t) (hmt : X.mg t = none) (hvt : bootBuiltins t = some (.type T)) (hgu : Gl X u) (hmu : X.mg u = none) (hvu : bootBuiltins u = some (.type U)) (ha : PE X a (rd X.K fa))
    (hn : t ≠ "__name__" := by decide) (hd : (t == ("__debug__" : Str)) = false := by decide) (hn' : u ≠ "__name__" := by decide) (hd' : (u == ("__debug__" : Str)) = false := by decide)
    (h1 : starEach (a :: [.Tuple [.Name t p1, .Name u p2] kp p3]) X.env = (false, eval a X.env) :: starEach [.Tuple [.Name t p1, .Name u p2] kp p3] X.env := by rfl)
    (h2 : starEach [.Tuple [.Name t p1, .Name u p2] kp p3] X.env = (false, eval (.Tuple [.Name t p1, .Name u p2] kp p3) X.env) :: starEach [] X.env := by rfl) (hpl : (backTo pos (starEach [.Tuple [.Name t p1, .Name u p2] kp p3] X.env)).any (·.1) = false := by rfl)
    (h3 : starEach [.Name t p1, .Name u p2] X.env = (false, eval (.Name t p1) X.env) :: starEach [.Name u p2] X.env := by rfl) (h4 : starEach [.Name u p2] X.env = (false, eval (.Name u p2) X.env) :: starEach [] X.env := by rfl) :
    PE X (.Call (.Name "isinstance" p) [a, .Tuple [.Name t p1, .Name u p2] kp p3] [] pos) (rd X.K (eIs2 T U fa)) :=
  PE.imp (pe_callB call_isiT hg hm boot_isinstance (pa_cons ha (pa_cons (pe_tup (pa_cons (pe_bltn hgt hmt hvt (v := .ty T) rfl hn hd) (pa_cons (pe_bltn hgu hmu hvu (v := .ty U) rfl hn' hd') pa_nil h4) h3)) pa_nil h2) h1) (by decide) (by decide) h1 hpl) fun σ H Q ⟨ρ, e, m, R, E, r, m', hr, k⟩ => by
    unfold eIs2 at hr
    split at hr
    · rename_i x m1 q1
      split at hr
      · rename_i d q2
        split at hr
        · rename_i b q3
          cases hr
          refine rd_mk R E q1 fun v1 H1 ρ1 g1 R1 E1 r1 => ?_
          refine ⟨by show 2 ≤ sizeLine; decide, fun tp htp => ?_⟩
          obtain ⟨R2, g2, _⟩ := R1.new (o := .tup [.ty T, .ty U]) htp
          have hd := ((vw_of R1 r1 q2).full hid_le).mono (G' := upd H1 tp (.tup [.ty T, .ty U])) (fun b' w' hw => by rw [upd_ne (ne_of_none hw htp)]; exact hw) d
          refine ⟨v1, tp, [.ty T, .ty U], _, [.type T, .type U], b, rfl, upd_same, .cons (.ty T) (.cons (.ty U) .nil), dt_ty hd, ?_, k _ _ ρ1 (g1.trans g2) R2 (Dt.bl b)⟩
          unfold isT2 isT at q3
          split at q3
          · rename_i e1
            cases q3
            exact kitAny_cons (kit_ty e1) (fun z => nomatch z) fun _ => rfl
          · rename_i e1
            refine kitAny_cons (kit_ty e1) (fun _ => ?_) fun z => nomatch z
            refine kitAny_cons (kit_ty q3) (fun z => ?_) fun z => z
            subst z
            rfl
          · cases q3
        · cases hr
      · cases hr
    · cases hr
end
/-! ### is None -/
def isnD (neg : Bool) : PyData → Option PyData
  | .none => some (.bool (!neg))
  | _ => some (.bool neg)
end DL
set_option Elab.async false
set_option linter.all false
set_option maxRecDepth 100000
set_option maxHeartbeats 4000000
namespace DL
open PySem PySem.Spec PyProof.Rows L2

/-! ### a def, and its call -/
abbrev MF := List EV → Mem → Option (EV × Mem)
/-- the promise: what the def's function says of values and memory -/
def spD (K : Frg) (F : MF) : Sp := fun vs H Q _ => ∃ ρ m rs, RelM K H ρ m ∧ EvA K (hid ρ m H) ρ vs rs ∧ ∃ r m', F rs m = some (r, m') ∧
  ∀ v H' ρ', Gr ρ m H ρ' m' H' → RelM K H' ρ' m' → EvR K (hid ρ' m' H') ρ' v r → Q v H'
structure FnG (P : Program) (w : World) (K : Frg) (mg : Str → Option Value) (base : Heap) (k : Nat) (f : Addr) (fd : FuncData) (ps : List Str) (F : MF) : Prop where
  len : ∀ rs m r, F rs m = some r → rs.length = ps.length
  run : ∀ (A : Around) (outer : List Env) (s : Shared) (H : Hp) (args : Args) (us : List Value) (vs : List V) (Q : VK), A.guards = some [] → Room k A → Env0 P w K mg base A outer s H → BindsTo s fd args (ps.zip us) →
    Vals vs us → spD K F vs H Q E0 → codeAny (model P w) A (.call (.ref f) args) (CR CX0 outer P w H s Q E0) s
theorem FnG.up {P : Program} {w : World} {K : Frg} {mg : Str → Option Value} {base : Heap} {j k : Nat} {f : Addr} {fd : FuncData} {ps : List Str} {F : MF} (h : FnG P w K mg base j f fd ps F) (l : j ≤ k) : FnG P w K mg base k f fd ps F :=
  ⟨h.len, fun A o s H a us vs Q g r => h.run A o s H a us vs Q g (r.mono l)⟩
def eCall (F : MF) (fa : MA) : ME := fun e m => match fa e m with
  | some (rs, m1) => F rs m1
  | none => none
theorem EvA.len {K : Frg} {G : Hp} {ρ : List Addr} : ∀ {vs : List V} {rs : List EV}, EvA K G ρ vs rs → vs.length = rs.length
  | _, _, .nil => rfl
  | _, _, .cons _ q => by rw [List.length_cons, List.length_cons, EvA.len q]
section
variable {X : Cx} {k : Nat} {f : Addr} {fd : FuncData} {ps : List Str} {F : MF} {x : Str} {p pos : Pos} {a : Expr} {es : List Expr} {fa : MA}
theorem run_g {pins : List (Addr × Obj)} {σ : L2.St} {H : Hp} {s : Shared} {Q : VK} {us : List Value} {vs : List V} (G : FnG X.prog X.w X.K X.mg X.base k f fd ps F) (gd : X.A.guards = some []) (rm : Room k X.A)
    (bd : Binds X.K fd ps []) (I : Inv X pins σ H s) (r : Vals vs us) (q : spD X.K F vs H Q E0) : wpAny (model X.prog X.w) X.A (call (.ref f) us) (EP X pins σ Q) X.xe s := by
  have hl : us.length = ps.length := by
    obtain ⟨ρ, m, rs, _, ea, rr, m', hF, _⟩ := q
    rw [← r.length, ea.len]
    exact G.len _ _ _ hF
  have bd' : BindsTo s fd ⟨us, []⟩ (ps.zip us) := by
    have b0 := bd s us I.kIn (by rw [List.append_nil]; exact hl)
    rw [List.append_nil] at b0
    exact b0
  refine wpAny_call (codeAny_mono (G.run X.A X.stack s H ⟨us, []⟩ us vs Q gd rm I.env0 bd' r q) fun res s1 hq => ?_)
  match res, hq with
  | .error e, hq => exact False.elim hq
  | .ok (.ret u), hq => exact I.after hq
  | .ok .next, hq => exact False.elim hq
  | .ok .brk, hq => exact False.elim hq
  | .ok .cont, hq => exact False.elim hq
theorem q_call (G : FnG X.prog X.w X.K X.mg X.base k f fd ps F) (gd : X.A.guards = some []) (rm : Room k X.A) (gx : Gl X x) (mx : X.mg x = some (.ref f)) (kp : PySem.W.keepIn X.K (.ref f) = true) (bd : Binds X.K fd ps [])
    (ha : PA X (a :: es) (ra X.K fa)) (hdb : (x == ("__debug__" : Str)) = false := by decide) (he : starEach (a :: es) X.env = (false, eval a X.env) :: starEach es X.env := by rfl) (hpl : (backTo pos (starEach es X.env)).any (·.1) = false := by rfl) :
    PE X (.Call (.Name x p) (a :: es) [] pos) (rd X.K (eCall F fa)) := by
  refine ⟨fun pins s σ H Q I h => ?_⟩
  obtain ⟨ρ, e, m, R, E, r, m', hr, q⟩ := h
  unfold eCall at hr
  split at hr
  · rename_i rs m1 h1
    refine wpAny_Call_Name_kw (ld_glob I gx mx ?_ hdb)
    have hq : ra X.K fa σ H fun vs H1 => spD X.K F vs H1 Q E0 :=
      ra_mk R E h1 fun vs H1 ρ1 g1 R1 E1 q1 => ⟨ρ1, m1, rs, R1, q1, r, m', hr, fun v H' ρ' g2 R2 q2 => q v H' ρ' (g1.trans g2) R2 q2⟩
    refine PySem.W.callWith_K (h₀ := X.base) I.ok.mod.kin kp (thn (ha.run pos pins s σ H _ I hq) fun us s1 ⟨vs, H1, I1, r1, q1⟩ => ⟨I1.kIn, ?_⟩) he hpl
    exact run_g G gd rm bd I1 r1 q1
  · cases hr
end

/-! ### statements -/
inductive Out where
  | nx (e : Env') | rt (r : EV) | bk (e : Env') | ct (e : Env')
abbrev MS := Env' → Mem → Option (Out × Mem)
def Fin' (K : Frg) (ρ : List Addr) (m : Mem) (H : Hp) (D : Ends) (m' : Mem) : Out → Prop
  | .nx e' => ∀ σ' H' ρ', Gr ρ m H ρ' m' H' → RelM K H' ρ' m' → EnvR K (hid ρ' m' H') ρ' σ' e' → D.nx σ' H'
  | .bk e' => ∀ σ' H' ρ', Gr ρ m H ρ' m' H' → RelM K H' ρ' m' → EnvR K (hid ρ' m' H') ρ' σ' e' → D.bk σ' H'
  | .ct e' => ∀ σ' H' ρ', Gr ρ m H ρ' m' H' → RelM K H' ρ' m' → EnvR K (hid ρ' m' H') ρ' σ' e' → D.ct σ' H'
  | .rt r => ∀ v H' ρ', Gr ρ m H ρ' m' H' → RelM K H' ρ' m' → EvR K (hid ρ' m' H') ρ' v r → D.rt v H'
theorem Fin'.gr {K : Frg} {ρ ρ1 : List Addr} {m m1 m' : Mem} {H H1 : Hp} {D : Ends} {o : Out} (g : Gr ρ m H ρ1 m1 H1) (h : Fin' K ρ m H D m' o) : Fin' K ρ1 m1 H1 D m' o := by
  cases o with
  | nx e' => exact fun σ' H' ρ' g' => h σ' H' ρ' (g.trans g')
  | bk e' => exact fun σ' H' ρ' g' => h σ' H' ρ' (g.trans g')
  | ct e' => exact fun σ' H' ρ' g' => h σ' H' ρ' (g.trans g')
  | rt r => exact fun v H' ρ' g' => h v H' ρ' (g.trans g')
def rs (K : Frg) (b : MS) : TS := fun D σ H => ∃ ρ e m, RelM K H ρ m ∧ EnvR K (hid ρ m H) ρ σ e ∧ ∃ o m', b e m = some (o, m') ∧ Fin' K ρ m H D m' o
def sNil : MS := fun e m => some (.nx e, m)
def sSeq (b c : MS) : MS := fun e m => match b e m with
  | some (.nx e1, m1) => c e1 m1
  | r => r
def sSet (i : Nat) (f : ME) : MS := fun e m => match f e m with
  | some (v, m1) => some (.nx (e.set i (some v)), m1)
  | none => none
def sEx (f : ME) : MS := fun e m => match f e m with
  | some (_, m1) => some (.nx e, m1)
  | none => none
def sRet (f : ME) : MS := fun e m => match f e m with
  | some (v, m1) => some (.rt v, m1)
  | none => none
def sRetN : MS := fun _ m => some (.rt (.d .none), m)
def sIf (c : MB) (b d : MS) : MS := fun e m => match c e m with
  | some (k, m1) => if k = true then b e m1 else d e m1
  | none => none
def sBk : MS := fun e m => some (.bk e, m)
def sCt : MS := fun e m => some (.ct e, m)
section
variable {X : Cx} {pos p : Pos} {st : Stmt} {rest : List Stmt} {b c : MS} {a : Expr} {f : ME} {cb : MB}
theorem qs_nil : PSs X [] (rs X.K sNil) := PSs.imp pss_nil fun D σ H ⟨ρ, e, m, R, E, o, m', hr, k⟩ => by
  cases hr
  exact k σ H ρ .refl R E
theorem qs_cons (h1 : PS X st (rs X.K b)) (h2 : PSs X rest (rs X.K c)) : PSs X (st :: rest) (rs X.K (sSeq b c)) := PSs.imp (pss_cons h1 h2) fun D σ H ⟨ρ, e, m, R, E, o, m', hr, k⟩ => by
  unfold sSeq at hr
  split at hr
  · rename_i e1 m1 h
    exact ⟨ρ, e, m, R, E, .nx e1, m1, h, fun σ' H' ρ' g R' E' => ⟨ρ', e1, m1, R', E', o, m', hr, k.gr g⟩⟩
  · rename_i hn
    refine ⟨ρ, e, m, R, E, o, m', hr, ?_⟩
    cases o with
    | nx e1 => exact absurd hr (hn e1 m')
    | bk e1 => exact k
    | ct e1 => exact k
    | rt r => exact k
theorem qs_one (h1 : PS X st (rs X.K b)) : PSs X [st] (rs X.K b) := pss_one h1
theorem q_ret (ha : PE X a (rd X.K f)) : PS X (.Return (some a) pos) (rs X.K (sRet f)) := PS.imp (ps_ret ha) fun D σ H ⟨ρ, e, m, R, E, o, m', hr, k⟩ => by
  unfold sRet at hr
  split at hr
  · rename_i v m1 h
    cases hr
    exact ⟨ρ, e, m, R, E, v, _, h, k⟩
  · cases hr
theorem q_retN : PS X (.Return none pos) (rs X.K sRetN) := PS.imp ps_retN fun D σ H ⟨ρ, e, m, R, E, o, m', hr, k⟩ => by
  cases hr
  exact k _ H ρ .refl R Dt.non
theorem q_if {c : Expr} {xs ys : List Stmt} {d : MS} (hc : PT X c (rb X.K cb)) (h1 : PSs X xs (rs X.K b)) (h2 : PSs X ys (rs X.K d)) : PS X (.If c xs ys pos) (rs X.K (sIf cb b d)) := PS.imp (ps_if hc h1 h2) fun D σ H ⟨ρ, e, m, R, E, o, m', hr, k⟩ => by
  unfold sIf at hr
  split at hr
  · rename_i kk m1 h
    refine rb_mk R E h fun H1 ρ1 g1 R1 E1 => ?_
    cases kk with
    | true =>
      rw [if_pos rfl] at hr ⊢
      exact ⟨ρ1, e, m1, R1, E1, o, m', hr, k.gr g1⟩
    | false =>
      rw [if_neg Bool.false_ne_true] at hr ⊢
      exact ⟨ρ1, e, m1, R1, E1, o, m', hr, k.gr g1⟩
  · cases hr
theorem EnvR.set {K : Frg} {G : Hp} {ρ : List Addr} {σ : L2.St} {e : Env'} {v : V} {x : EV} (i : Nat) (E : EnvR K G ρ σ e) (h : EvR K G ρ v x) : EnvR K G ρ (σ.set i (some v)) (e.set i (some x)) := by
  refine ⟨by rw [List.length_set, List.length_set, E.len], fun j y hy => ?_⟩
  rw [List.getElem?_set] at hy
  rw [List.getElem?_set]
  by_cases hij : i = j
  · subst hij
    rw [if_pos rfl] at hy ⊢
    split at hy
    · rename_i hl
      rw [if_pos (by rw [E.len]; exact hl)]
      cases hy
      exact ⟨v, rfl, h⟩
    · cases hy
  · rw [if_neg hij] at hy ⊢
    exact E.get j y hy
theorem q_set {i : Nat} {x : Str} (hN : X.N.Nodup) (hi : X.N[i]? = some x) (hx : Loc X.env.scope x) (ha : PE X a (rd X.K f)) (hs : swapsWith a (some (.Name x p)) pos.line X.env = pure false := by rfl)
    (hf : X.fn x = true ∨ X.env.scope.names.lookup x = some .local := by first | exact .inl rfl | exact .inr rfl | assumption) : PS X (.Assign [.Name x p] a pos) (rs X.K (sSet i f)) :=
  PS.imp (ps_set hN hi hx ha hs hf) fun D σ H ⟨ρ, e, m, R, E, o, m', hr, k⟩ => by
    unfold sSet at hr
    split at hr
    · rename_i v m1 h
      cases hr
      exact rd_mk R E h fun v1 H1 ρ1 g1 R1 E1 r1 => k _ H1 ρ1 g1 R1 (E1.set i r1)
    · cases hr
theorem q_expr (ha : PE X a (rd X.K f)) (hs : swapsWith a none pos.line X.env = pure false := by rfl) : PS X (.Expr a pos) (rs X.K (sEx f)) := PS.imp (ps_expr ha hs) fun D σ H ⟨ρ, e, m, R, E, o, m', hr, k⟩ => by
  unfold sEx at hr
  split at hr
  · rename_i v m1 h
    cases hr
    exact rd_mk R E h fun v1 H1 ρ1 g1 R1 E1 r1 => k _ H1 ρ1 g1 R1 E1
  · cases hr
theorem q_break : PS X (.Break pos) (rs X.K sBk) := PS.imp ps_break fun D σ H ⟨ρ, e, m, R, E, o, m', hr, k⟩ => by
  cases hr
  exact k σ H ρ .refl R E
theorem q_continue : PS X (.Continue pos) (rs X.K sCt) := PS.imp ps_continue fun D σ H ⟨ρ, e, m, R, E, o, m', hr, k⟩ => by
  cases hr
  exact k σ H ρ .refl R E
end

/-! ### the def's body as a function -/
def live : MO → Bool
  | .gone => false
  | _ => true
def fnOut (n : Nat) : Option (Out × Mem) → Option (EV × Mem)
  | some (.nx _, m') => some (.d .none, m'.take n)
  | some (.rt (.d x), m') => some (.d x, m'.take n)
  | some (.rt (.l i), m') => if i < n then some (.l i, m'.take n) else match m'[i]? with
    | some o => some (.l n, m'.take n ++ [o])
    | none => none
  | some (.rt (.t xs), m') => some (.t xs, m')
  | some (.rt (.o c fs), m') => some (.o c fs, m'.take n)
  | _ => none
def fnM (n N : Nat) (b : MS) : MF := fun rs m => if rs.length = n then fnOut m.length (b (rs.map some ++ List.replicate (N - n) none) m) else none
theorem RelM.pick {K : Frg} {ρ : List Addr} {m : Mem} {H : Hp} (R : RelM K H ρ m) {n i : Nat} {a : Addr} {o : MO} (hn : n ≤ i) (h1 : ρ[i]? = some a) (h2 : m[i]? = some o) :
    RelM K H (ρ.take n ++ [a]) (m.take n ++ [o]) ∧ Same (hid ρ m H) (hid (ρ.take n ++ [a]) (m.take n ++ [o]) H) := by
  have hi := (List.getElem?_eq_some_iff.mp h1).1
  have hl : (ρ.take n).length = n := by rw [List.length_take]; omega
  have hl2 : (m.take n).length = n := by rw [List.length_take, ← R.len]; omega
  have na : a ∉ ρ.take n := by
    intro z
    obtain ⟨j, hj⟩ := List.getElem?_of_mem z
    rw [List.getElem?_take] at hj
    split at hj
    · have hj2 := (List.getElem?_eq_some_iff.mp hj).1
      have := (List.getElem?_inj hj2 R.nd).mp (hj.trans h1.symm)
      omega
    · cases hj
  have at1 : ∀ (j : Nat) (b : Addr) (z : MO), (ρ.take n ++ [a])[j]? = some b → (m.take n ++ [o])[j]? = some z → ∃ t : Nat, ρ[t]? = some b ∧ m[t]? = some z := by
    intro j b z e1 e2
    by_cases hj : j < n
    · rw [List.getElem?_append_left (by omega), List.getElem?_take, if_pos hj] at e1
      rw [List.getElem?_append_left (by omega), List.getElem?_take, if_pos hj] at e2
      exact ⟨j, e1, e2⟩
    · rw [List.getElem?_append_right (by omega), hl] at e1
      rw [List.getElem?_append_right (by omega), hl2] at e2
      cases q : j - n with
      | zero =>
        rw [q] at e1 e2
        simp at e1 e2
        subst e1 e2
        exact ⟨i, h1, h2⟩
      | succ t => rw [q] at e1; simp at e1
  have sm : Same (hid ρ m H) (hid (ρ.take n ++ [a]) (m.take n ++ [o]) H) := fun b w hw => by
    obtain ⟨w1, w2⟩ := hid_some hw
    rw [hid_no, w1]
    rintro ⟨j, z, e1, e2, e3⟩
    obtain ⟨t, t1, t2⟩ := at1 j b z e1 e2
    exact w2 ⟨t, z, t1, t2, e3⟩
  refine ⟨⟨by rw [List.length_append, List.length_append, hl, hl2]; rfl, ?_, fun b hb => ?_, fun j b z e1 e2 => ?_⟩, sm⟩
  · rw [List.nodup_append]
    refine ⟨R.nd.sublist (List.take_sublist _ _), by simp, fun b hb c hc e => ?_⟩
    rw [List.mem_singleton] at hc
    subst hc e
    exact na hb
  · rcases List.mem_append.mp hb with hb | hb
    · exact R.al _ (List.mem_of_mem_take hb)
    · rw [List.mem_singleton] at hb
      subst hb
      exact R.al _ (List.mem_of_getElem? h1)
  · obtain ⟨t, t1, t2⟩ := at1 j b z e1 e2
    have ok := (R.ok t b z t1 t2).mono (G' := hid (ρ.take n ++ [a]) (m.take n ++ [o]) H) (ρ' := ρ) (H' := H) sm (List.prefix_refl _) (.inl rfl)
    cases z with
    | gone => trivial
    | lst ds => exact ok
    | dct kvs => exact ok
    | ins c fs => exact ok
theorem start_env {K : Frg} {G : Hp} {ρ : List Addr} {N : List Str} : ∀ {vs : List V} {rs : List EV}, EvA K G ρ vs rs → vs.length ≤ N.length → EnvR K G ρ (L2.start N vs) (rs.map some ++ List.replicate (N.length - rs.length) none) := by
  intro vs rs h hl
  have e := h.len
  refine ⟨?_, fun i x hx => ?_⟩
  · unfold L2.start
    simp only [List.length_append, List.length_map, List.length_replicate, e]
  · have get : ∀ {vs : List V} {rs : List EV} {i : Nat}, EvA K G ρ vs rs → (rs.map some)[i]? = some (some x) → ∃ v, (vs.map some)[i]? = some (some v) ∧ EvR K G ρ v x := by
      intro vs rs
      induction rs generalizing vs with
      | nil => intro i _ z; simp at z
      | cons r rs ih =>
        intro i hh z
        cases hh with
        | cons h1 h2 =>
          cases i with
          | zero => simp at z; subst z; exact ⟨_, rfl, h1⟩
          | succ i =>
            obtain ⟨v, v1, v2⟩ := ih h2 (by simpa using z)
            exact ⟨v, by simpa using v1, v2⟩
    by_cases hi : i < rs.length
    · rw [List.getElem?_append_left (by rw [List.length_map]; exact hi)] at hx
      obtain ⟨v, v1, v2⟩ := get h hx
      refine ⟨v, ?_, v2⟩
      unfold L2.start
      rw [List.getElem?_append_left (by rw [List.length_map, e]; exact hi)]
      exact v1
    · rw [List.getElem?_append_right (by rw [List.length_map]; omega), List.getElem?_replicate] at hx
      split at hx <;> cases hx
section
variable {P : Program} {w : World} {K : Frg} {mg : Str → Option Value} {base : Heap}
/-- what a def's body is walked in -/
abbrev bodyCx (P : Program) (w : World) (K : Frg) (mg : Str → Option Value) (base : Heap) (N : List Str) (qual : Str) (st : Stmt) (f : Addr) (cdv : Value) (A : Around) (outer : List Env) (s : Shared) (H : Hp) : Cx :=
  (cxOf CX0 P w K mg base N qual (defScope st) f cdv A outer s H E0).nox
theorem fng {x qual : Str} {st : Stmt} {f : Addr} {fd : FuncData} {N ps : List Str} {k : Nat} {b : MS} (F : Fun K x qual st f fd) (S : FnScope N ps (defScope st)) (hps : ps.length ≤ N.length)
    (body : ∀ (cdv : Value) (A : Around) (outer : List Env) (s : Shared) (H : Hp), A.guards = some [] → Room k (A.deeper (envOfC qual (defScope st) s.heap.objs.size f cdv)) →
      PSs (bodyCx P w K mg base N qual st f cdv A outer s H) (defBody st) (rs K b)) : FnG P w K mg base (k + 1) f fd ps (fnM ps.length N.length b) := by
  obtain ⟨oc, od, kV, doc, pm, an, cdv, ct, osl, rfl, lk, hcd⟩ := F.ex
  refine ⟨fun rs m r h => ?_, fun A outer s H args us vs Q gd hr e0 hb r hsp => ?_⟩
  · unfold fnM at h
    split at h
    · assumption
    · cases h
  obtain ⟨ρ, m, rs, R, ea, rr, m', hF, k0⟩ := hsp
  unfold fnM at hF
  split at hF
  case isFalse => cases hF
  case isTrue hlen =>
  have hlv : vs.length = ps.length := by rw [ea.len]; exact hlen
  have kx : K.In s.heap := e0.mod.kin.keeps fun b o e => (e0.bs b o e).1
  have lim : s.heap.NoLimit := e0.mod.nolimit.keeps fun b o e => (e0.bs b o e).1
  have kinds : ∀ y ∈ ps.zip us, (defScope st).names.lookup y.1 = some .local ∨ ((defScope st).names.lookup y.1 = some .cell ∧ ((cellsFrom (s.heap.objs.size + 1) (defScope st).names []).lookup y.1).isSome = true) := by
    rintro ⟨nm, v⟩ hy
    rcases S.par nm (List.of_mem_zip hy).1 with q | q
    · exact Or.inl q
    · exact Or.inr ⟨q, PySem.W.cellsFrom_some _ _ _ (Or.inl q)⟩
  refine codeAny_call_function hr.depth (kx _ _ lk) rfl S.co S.gen rfl (PySem.W.codeRec_of kx hcd) (hb _ _ _ _ ?_)
  refine wpAny_newFunctionEnv_cells S.kind kinds fun env he s1 x1 => ?_
  subst he
  refine ⟨lim.keeps x1.toInCall.keep, codeAny_func ?_⟩
  have ht := body cdv A outer s H gd (hr.deeper _)
  have I0 : Inv (cxOf CX0 P w K mg base N qual (defScope st) f cdv A outer s H E0) [] (L2.start N vs) H s1 := inv_start S hr.hd e0 hlv r x1
  have E1 : EnvR K (hid ρ m H) ρ (L2.start N vs) (rs.map some ++ List.replicate (N.length - ps.length) none) := by
    have := start_env (N := N) ea (by omega)
    rw [hlen] at this
    exact this
  -- what the body leads to
  have goal : ∃ o m1, b (rs.map some ++ List.replicate (N.length - ps.length) none) m = some (o, m1) ∧ Fin' K ρ m H { nx := fun _ H' => Q .non H', rt := Q } m1 o := by
    cases hb2 : b (rs.map some ++ List.replicate (N.length - ps.length) none) m with
    | none => rw [hb2] at hF; cases hF
    | some om =>
      obtain ⟨o, m1⟩ := om
      rw [hb2] at hF
      refine ⟨o, m1, rfl, ?_⟩
      have cut : ∀ {H' : Hp} {ρ' : List Addr}, Gr ρ m H ρ' m1 H' → RelM K H' ρ' m1 → ρ'.take m.length = ρ ∧ RelM K H' ρ (m1.take m.length) ∧ Gr ρ m H ρ (m1.take m.length) H' ∧ Same (hid ρ' m1 H') (hid ρ (m1.take m.length) H') := by
        intro H' ρ' g R'
        have e1 : ρ'.take m.length = ρ := by rw [← R.len]; exact take_pre g.pre
        have R2 := R'.take m.length
        have s2 : Same (hid ρ' m1 H') (hid (ρ'.take m.length) (m1.take m.length) H') := hid_take _
        rw [e1] at R2 s2
        exact ⟨e1, R2, ⟨List.prefix_refl _, g.same.trans s2⟩, s2⟩
      cases o with
      | nx e' =>
        cases hF
        intro σ' H' ρ' g R' _
        obtain ⟨_, R2, g2, _⟩ := cut g R'
        exact k0 _ H' ρ g2 R2 Dt.non
      | bk e' => cases hF
      | ct e' => cases hF
      | rt z =>
        cases z with
        | d y =>
          cases hF
          intro v H' ρ' g R' hv
          obtain ⟨_, R2, g2, s2⟩ := cut g R'
          exact k0 v H' ρ g2 R2 (Dt.mono s2 _ hv)
        | f ds => cases hF
        | t xs =>
          cases hF
          exact fun v H' ρ' g R' hv => k0 v H' ρ' g R' hv
        | o c fs =>
          cases hF
          intro v H' ρ' g R' hv
          obtain ⟨_, R2, g2, s2⟩ := cut g R'
          obtain ⟨a, C, dx, ys, h1, h2, h3, h4⟩ := hv
          exact k0 v H' ρ g2 R2 ⟨a, C, dx, ys, h1, h2, s2 _ _ h3, h4.mono s2⟩
        | l i =>
          simp only [fnOut] at hF
          split at hF
          · rename_i hi
            cases hF
            intro v H' ρ' g R' hv
            obtain ⟨e1, R2, g2, s2⟩ := cut g R'
            obtain ⟨a, h1, h2⟩ := hv
            refine k0 v H' ρ g2 R2 ⟨a, ?_, h2⟩
            rw [← e1, List.getElem?_take, if_pos hi]
            exact h1
          · rename_i hi
            split at hF
            · rename_i o2 ho
              cases hF
              intro v H' ρ' g R' hv
              obtain ⟨a, h1, h2⟩ := hv
              obtain ⟨R2, s2⟩ := R'.pick (Nat.le_of_not_lt hi) h1 ho
              have e1 : ρ'.take m.length = ρ := by rw [← R.len]; exact take_pre g.pre
              rw [e1] at R2 s2
              refine k0 v H' (ρ ++ [a]) ⟨List.prefix_append _ _, g.same.trans s2⟩ R2 ⟨a, ?_, h2⟩
              rw [← R.len, List.getElem?_append_right (Nat.le_refl _), Nat.sub_self]
              rfl
            · cases hF
  obtain ⟨o, m1, hb2, hfin⟩ := goal
  refine wpAny_mono (ht.nox.run [] s1 (L2.start N vs) H _ I0 ⟨ρ, _, m, R, E1, o, m1, hb2, hfin⟩) (fun fl s2 hs => ?_) fun e s2 hs => hs
  have fin : ∀ {σ' : L2.St} {H' : Hp} {v : V} {u : Value}, Inv (cxOf CX0 P w K mg base N qual (defScope st) f cdv A outer s H E0) [] σ' H' s2 → RelV v u → Q v H' → CE outer P w H s Q u s2 :=
    fun {σ' H' v u} J rv q => ⟨v, H', J.os, J.bare, J.base, J.hok, rv, q⟩
  match fl, hs with
  | .ret u, hs =>
    obtain ⟨v, σ', H', J, rv, q⟩ := hs
    exact fin J rv q
  | .next, hs =>
    obtain ⟨σ', H', J, q⟩ := hs
    exact fin (v := V.non) (u := Value.none) J rfl q
  | .brk, hs =>
    obtain ⟨_, _, _, q⟩ := hs
    exact False.elim q
  | .cont, hs =>
    obtain ⟨_, _, _, q⟩ := hs
    exact False.elim q
end
end DL
set_option Elab.async false
set_option linter.all false
set_option maxRecDepth 100000
set_option maxHeartbeats 4000000
namespace DL
open PySem PySem.Spec PyProof.Rows L2 RT

/-! ### targets -/
abbrev MG := EV → Env' → Mem → Option Env'
def rg (K : Frg) (vs : List Nat) (t : MG) : TG := fun v σ H Q => ∃ ρ e m x, RelM K H ρ m ∧ EnvR K (hid ρ m H) ρ σ e ∧ EvR K (hid ρ m H) ρ v x ∧ ∃ e', t x e m = some e' ∧
  ∀ σ', wipe σ' vs = wipe σ vs → EnvR K (hid ρ m H) ρ σ' e' → Q σ' H
def gNm (i : Nat) : MG := fun x e _ => some (e.set i (some x))
def setAll (e : Env') : List Nat → List PyData → Env'
  | i :: is, d :: ds => setAll (e.set i (some (.d d))) is ds
  | _, _ => e
def gTp (is : List Nat) : MG := fun x e _ => match x with
  | .d (.tuple ds) => if ds.length = is.length then some (setAll e is ds) else none
  | _ => none
theorem wipe_get {σ : L2.St} : ∀ {vs : List Nat} {i : Nat}, (wipe σ vs)[i]? = if i ∈ vs ∧ i < σ.length then some none else σ[i]?
  | [], i => by simp [wipe]
  | v :: vs, i => by
    show ((wipe σ vs).set v none)[i]? = _
    rw [List.getElem?_set, wipe_length, wipe_get]
    by_cases h : v = i
    · subst h
      rw [if_pos rfl]
      by_cases hl : v < σ.length
      · simp [hl]
      · simp only [hl, if_false, and_false]
        rw [List.getElem?_eq_none_iff.mpr (by omega)]
    · rw [if_neg h]
      have : (i ∈ v :: vs) ↔ i ∈ vs := by
        rw [List.mem_cons]
        exact ⟨fun z => z.elim (fun z => absurd z.symm h) id, .inr⟩
      simp only [this]
theorem wipe_set {σ : L2.St} {vs : List Nat} {i : Nat} {x : Option V} (h : i ∈ vs) : wipe (σ.set i x) vs = wipe σ vs := by
  apply List.ext_getElem?
  intro j
  rw [wipe_get, wipe_get, List.length_set, List.getElem?_set]
  by_cases hj : j ∈ vs ∧ j < σ.length
  · rw [if_pos hj, if_pos hj]
  · rw [if_neg hj, if_neg hj]
    by_cases hij : i = j
    · subst hij
      rw [if_pos rfl]
      have hl : ¬ i < σ.length := fun z => hj ⟨h, z⟩
      rw [if_neg hl, List.getElem?_eq_none_iff.mpr (by omega)]
    · rw [if_neg hij]
theorem setAll_len : ∀ {e : Env'} {is : List Nat} {ds : List PyData}, (setAll e is ds).length = e.length
  | e, [], [] => rfl
  | e, [], _ :: _ => rfl
  | e, _ :: _, [] => rfl
  | e, i :: is, d :: ds => by unfold setAll; rw [setAll_len, List.length_set]
def rgs (K : Frg) (vs : List Nat) (is : List Nat) : TGs := fun ws σ H Q => ∃ ρ e m ds, RelM K H ρ m ∧ EnvR K (hid ρ m H) ρ σ e ∧ DtA K (hid ρ m H) ws ds ∧ ds.length = is.length ∧
  ∀ σ', wipe σ' vs = wipe σ vs → EnvR K (hid ρ m H) ρ σ' (setAll e is ds) → Q σ' H
theorem PG.imp {X : Cx} {e : Expr} {t t' : TG} (h : PG X e t) (w : ∀ v σ H Q, t' v σ H Q → t v σ H Q) : PG X e t' := ⟨fun pins s σ H v u Q I r q => h.run pins s σ H v u Q I r (w _ _ _ _ q)⟩
theorem PGs.imp {X : Cx} {e : List Expr} {t t' : TGs} (h : PGs X e t) (w : ∀ v σ H Q, t' v σ H Q → t v σ H Q) : PGs X e t' := ⟨fun pins s σ H v u Q I r q => h.run pins s σ H v u Q I r (w _ _ _ _ q)⟩
section
variable {X : Cx} {vs is : List Nat} {i : Nat} {x : Str} {p pos : Pos} {a : Expr} {es : List Expr}
theorem q_gname (hN : X.N.Nodup) (hi : X.N[i]? = some x) (hx : Loc X.env.scope x) (hv : i ∈ vs := by simp) (hf : X.fn x = true ∨ X.env.scope.names.lookup x = some .local := by first | exact .inl rfl | exact .inr rfl | assumption) : PG X (.Name x p) (rg X.K vs (gNm i)) :=
  PG.imp (pg_name hN hi hx hf) fun v σ H Q ⟨ρ, e, m, y, R, E, hy, e', he, k⟩ => by
    cases he
    exact k _ (wipe_set hv) (E.set i hy)
theorem q_gnil : PGs X [] (rgs X.K vs []) := PGs.imp pgs_nil fun ws σ H Q ⟨ρ, e, m, ds, R, E, hd, hl, k⟩ => by
  cases ds with
  | nil => cases hd; exact ⟨rfl, k σ rfl (by unfold setAll; exact E)⟩
  | cons d ds => cases hl
theorem q_gcons (hN : X.N.Nodup) (hi : X.N[i]? = some x) (hx : Loc X.env.scope x) (h2 : PGs X es (rgs X.K vs is)) (hv : i ∈ vs := by simp) (hf : X.fn x = true ∨ X.env.scope.names.lookup x = some .local := by first | exact .inl rfl | exact .inr rfl | assumption)
    (hs : (assignEach (.Name x p :: es) X.env).map (·.2) = assign (.Name x p) X.env :: (assignEach es X.env).map (·.2) := by rfl) : PGs X (.Name x p :: es) (rgs X.K vs (i :: is)) :=
  PGs.imp (pgs_cons (pg_name hN hi hx hf) h2 hs) fun ws σ H Q ⟨ρ, e, m, ds, R, E, hd, hl, k⟩ => by
    cases hd with
    | nil => cases hl
    | cons h q =>
      rename_i v d ds' vs'
      refine ⟨_, _, rfl, ?_⟩
      refine ⟨ρ, _, m, _, R, E.set i (x := .d _) h, q, by simpa using hl, fun σ' hw E' => k σ' (hw.trans (wipe_set hv)) E'⟩
theorem q_gtup {k : Nat} {n : Nat} (hc : X.calm = true) (h : PGs X es (rgs X.K vs is)) (hn : (assignEach es X.env).length = n := by rfl) (hst : (assignEach es X.env).findIdx? (·.1) = none := by rfl) (hl : is.length = n := by rfl) : PG X (.Tuple es k pos) (rg X.K vs (gTp is)) :=
  PG.imp (pg_tup hc h hn hst) fun v σ H Q ⟨ρ, e, m, y, R, E, hy, e', he, kk⟩ => by
    unfold gTp at he
    split at he
    · split at he
      · rename_i hlen
        cases he
        cases hy with
        | tup h1 h2 =>
        exact ⟨_, _, rfl, sqt_same hid_le h1, by rw [h2.len, hlen, hl], ρ, e, m, _, R, E, h2, hlen, kk⟩
      · cases he
    · cases he
end
/-- t = e for any target -/
def sAsg (f : ME) (g : MG) : MS := fun e m => match f e m with
  | some (v, m1) => match g v e m1 with
    | some e1 => some (.nx e1, m1)
    | none => none
  | none => none
section
variable {X : Cx} {vs : List Nat} {p pos : Pos} {a tg : Expr} {f : ME} {g : MG}
theorem q_asg (ha : PE X a (rd X.K f)) (hg : PG X tg (rg X.K vs g)) (hs : swapsWithSole [tg] a pos.line X.env = pure false := by rfl) (hw : swappedStores [tg] a X.env = pure none := by rfl) (h1 : (assignEach [tg] X.env).map (·.2) = [assign tg X.env] := by rfl) :
    PS X (.Assign [tg] a pos) (rs X.K (sAsg f g)) :=
  PS.imp (ps_asg ha hg hs hw h1) fun D σ H ⟨ρ, e, m, R, E, o, m', hr, k⟩ => by
    unfold sAsg at hr
    split at hr
    · rename_i v m1 h
      split at hr
      · rename_i e1 h2
        cases hr
        exact rd_mk R E h fun v1 H1 ρ1 g1 R1 E1 r1 => ⟨ρ1, e, _, v, R1, E1, r1, e1, h2, fun σ' _ E' => k σ' H1 ρ1 g1 R1 E'⟩
      · cases hr
    · cases hr
end

/-! ### what is walked: the items, and what must stay so while they are walked -/
abbrev MIt := Env' → Mem → Option (List EV × (Mem → Prop) × Mem)
def Serves (K : Frg) (ρ : List Addr) (m : Mem) (H : Hp) (J : It) (xs : List EV) (C : Mem → Prop) : Prop := ∀ ρ2 m2 H2, Gr ρ m H ρ2 m2 H2 → RelM K H2 ρ2 m2 → C m2 → ∀ i, (xs.length ≤ i → J.stop i H2) ∧
  ∀ x, xs[i]? = some x → J.go i H2 ∧ ∀ v H3, J.yld i H2 v H3 → Same H2 H3 ∧ EvR K (hid ρ2 m2 H3) ρ2 v x
def ri (K : Frg) (f : MIt) : TI := fun σ H R => ∃ ρ e m, RelM K H ρ m ∧ EnvR K (hid ρ m H) ρ σ e ∧ ∃ xs C m', f e m = some (xs, C, m') ∧
  ∀ J H' ρ', Gr ρ m H ρ' m' H' → RelM K H' ρ' m' → Serves K ρ' m' H' J xs C → R J H'
theorem PI.imp {X : Cx} {tg e : Expr} {t t' : TI} (h : PI X tg e t) (w : ∀ σ H R, t' σ H R → t σ H R) : PI X tg e t' := ⟨fun pins s σ H R I q => h.run pins s σ H R I (w _ _ _ q)⟩
def noC : Mem → Prop := fun _ => True
/-- the list at a place stays as it is -/
def isC (j : Nat) (ds : List PyData) : Mem → Prop := fun m => m[j]? = some (.lst ds)
def iAny (f : ME) : MIt := fun e m => match f e m with
  | some (.d (.list ds), m1) => some (ds.map EV.d, noC, m1)
  | some (.d (.tuple ds), m1) => some (ds.map EV.d, noC, m1)
  | some (.d (.str s), m1) => some (s.cps.toList.map fun c => EV.d (.str ⟨#[c]⟩), noC, m1)
  | some (.l j, m1) => match m1[j]? with
    | some (.lst ds) => some (ds.map EV.d, isC j ds, m1)
    | _ => none
  | _ => none
def rgL (lo : Int) (n : Nat) : List EV := (List.range n).map fun i => EV.d (.int (lo + (i : Nat)))
def iRg1 (f : ME) : MIt := fun e m => match f e m with
  | some (.d (.int j), m1) => if -(2 ^ 62) ≤ j ∧ j < 2 ^ 62 then some (rgL 0 j.toNat, noC, m1) else none
  | _ => none
def iRg2 (f g : ME) : MIt := fun e m => match f e m with
  | some (.d (.int i), m1) => match g e m1 with
    | some (.d (.int j), m2) => if -(2 ^ 62) ≤ i ∧ i < 2 ^ 62 ∧ -(2 ^ 62) ≤ j ∧ j < 2 ^ 62 then some (rgL i (j - i).toNat, noC, m2) else none
    | _ => none
  | _ => none
def iRv (f : ME) : MIt := fun e m => match f e m with
  | some (.d (.list ds), m1) => some (ds.reverse.map EV.d, noC, m1)
  | some (.d (.tuple ds), m1) => some (ds.reverse.map EV.d, noC, m1)
  | some (.l j, m1) => match m1[j]? with
    | some (.lst ds) => some (ds.reverse.map EV.d, isC j ds, m1)
    | _ => none
  | _ => none
def iEn (f : ME) : MIt := fun e m => match f e m with
  | some (.d (.list ds), m1) => some (ds.zipIdx.map fun p => EV.d (.tuple [.int (p.2 : Nat), p.1]), noC, m1)
  | some (.l j, m1) => match m1[j]? with
    | some (.lst ds) => some (ds.zipIdx.map fun p => EV.d (.tuple [.int (p.2 : Nat), p.1]), isC j ds, m1)
    | _ => none
  | _ => none
theorem dt_list {K : Frg} {G : Hp} {v : V} {ds : List PyData} (h : Dt K G v (.list ds)) : ∃ a xs, v = .ref a ∧ G a = some (.lst xs) ∧ DtA K G xs ds := by
  cases h with | lst h q => exact ⟨_, _, rfl, h, q⟩
theorem dt_tuple {K : Frg} {G : Hp} {v : V} {ds : List PyData} (h : Dt K G v (.tuple ds)) : ∃ a xs, v = .ref a ∧ SqT K G a xs ∧ DtA K G xs ds := by
  cases h with | tup h q => exact ⟨_, _, rfl, h, q⟩
section
variable {K : Frg} {ρ : List Addr} {m : Mem} {H : Hp}
/-- a list of data, or at a place: what it holds at any later state -/
def Src (K : Frg) (ρ : List Addr) (m : Mem) (H : Hp) (a : Addr) (ds : List PyData) (C : Mem → Prop) : Prop := ∀ ρ2 m2 H2, Gr ρ m H ρ2 m2 H2 → RelM K H2 ρ2 m2 → C m2 → ∃ xs, H2 a = some (.lst xs) ∧ DtA K (hid ρ2 m2 H2) xs ds
theorem src_d {a : Addr} {xs : List V} {ds : List PyData} (h : hid ρ m H a = some (.lst xs)) (q : DtA K (hid ρ m H) xs ds) : Src K ρ m H a ds noC := fun ρ2 m2 H2 g R _ => ⟨xs, (hid_some (g.same _ _ h)).1, DtA.mono g.same _ q⟩
theorem src_l {a : Addr} {j : Nat} {ds : List PyData} (h : ρ[j]? = some a) : Src K ρ m H a ds (isC j ds) := fun ρ2 m2 H2 g R c => R.ok j a _ (pre_get g.pre h) c
theorem srv_list {a : Addr} {ds : List PyData} {C : Mem → Prop} (s : Src K ρ m H a ds C) : Serves K ρ m H (Itl K a) (ds.map EV.d) C := by
  intro ρ2 m2 H2 g R c i
  obtain ⟨xs, h2, q⟩ := s ρ2 m2 H2 g R c
  have h3 : SqL K H2 a xs := .inl (.inl h2)
  refine ⟨fun hl => ⟨xs, h3, by rw [q.len]; simpa using hl⟩, fun x hx => ?_⟩
  rw [List.getElem?_map] at hx
  cases e : ds[i]? with
  | none => rw [e] at hx; cases hx
  | some d =>
    rw [e] at hx
    cases hx
    obtain ⟨v, hv, hd⟩ := q.get e
    refine ⟨⟨xs, v, h3, hv⟩, fun w H3 hy => ?_⟩
    obtain ⟨rfl, hy⟩ := hy
    have := (hy xs h3).symm.trans hv
    cases this
    exact ⟨Same.refl _, hd⟩
theorem srv_tup {a : Addr} {xs : List V} {ds : List PyData} (h : SqT K (hid ρ m H) a xs) (q : DtA K (hid ρ m H) xs ds) : Serves K ρ m H (Itt K a) (ds.map EV.d) noC := by
  intro ρ2 m2 H2 g R _ i
  have h3 : SqT K H2 a xs := sqt_same hid_le (sqt_same g.same h)
  refine ⟨fun hl => ⟨xs, h3, by rw [q.len]; simpa using hl⟩, fun x hx => ?_⟩
  rw [List.getElem?_map] at hx
  cases e : ds[i]? with
  | none => rw [e] at hx; cases hx
  | some d =>
    rw [e] at hx
    cases hx
    obtain ⟨v, hv, hd⟩ := q.get e
    refine ⟨⟨xs, v, h3, hv⟩, fun w H3 hy => ?_⟩
    obtain ⟨rfl, hy⟩ := hy
    have := (hy xs h3).symm.trans hv
    cases this
    exact ⟨Same.refl _, Dt.mono g.same d hd⟩
theorem srv_str {s : Str} : Serves K ρ m H (Its s) (s.cps.toList.map fun c => EV.d (.str ⟨#[c]⟩)) noC := by
  intro ρ2 m2 H2 g R _ i
  refine ⟨fun hl => by show s.cps.size ≤ i; simpa using hl, fun x hx => ?_⟩
  rw [List.getElem?_map] at hx
  cases e : s.cps.toList[i]? with
  | none => rw [e] at hx; cases hx
  | some c =>
    rw [e] at hx
    cases hx
    have hi := (List.getElem?_eq_some_iff.mp e).1
    refine ⟨by show i < s.cps.size; simpa using hi, fun w H3 hy => ?_⟩
    obtain ⟨rfl, c', h1, rfl⟩ := hy
    have h2 : s.cps.toList[i]? = some c' := by rw [Array.getElem?_toList]; exact h1
    rw [e] at h2
    cases h2
    exact ⟨Same.refl _, Dt.str _⟩
theorem rgL_get {lo : Int} {n i : Nat} {x : EV} (h : (rgL lo n)[i]? = some x) : i < n ∧ x = .d (.int (lo + (i : Nat))) := by
  unfold rgL at h
  rw [List.getElem?_map] at h
  cases e : (List.range n)[i]? with
  | none => rw [e] at h; cases h
  | some j =>
    rw [e] at h
    cases h
    have hi : i < n := by
      have := (List.getElem?_eq_some_iff.mp e).1
      simpa using this
    rw [List.getElem?_range hi] at e
    cases e
    exact ⟨hi, rfl⟩
theorem srv_rng {lo : Int} {n : Nat} : Serves K ρ m H (Itr lo n) (rgL lo n) noC := by
  intro ρ2 m2 H2 g R _ i
  refine ⟨fun hl => by show n ≤ i; unfold rgL at hl; simpa using hl, fun x hx => ?_⟩
  obtain ⟨hi, rfl⟩ := rgL_get hx
  refine ⟨hi, fun w H3 hy => ?_⟩
  obtain ⟨rfl, rfl⟩ := hy
  exact ⟨Same.refl _, Dt.int _⟩
theorem srv_rev {a : Addr} {ds : List PyData} {n : Nat} {C : Mem → Prop} (s : Src K ρ m H a ds C) (hn : n = ds.length) : Serves K ρ m H (Itv K a n) (ds.reverse.map EV.d) C := by
  subst hn
  intro ρ2 m2 H2 g R c i
  obtain ⟨xs, h2, q⟩ := s ρ2 m2 H2 g R c
  have h3 : SqL K H2 a xs := .inl (.inl h2)
  refine ⟨fun hl => by show ds.length ≤ i; simpa using hl, fun x hx => ?_⟩
  rw [List.getElem?_map] at hx
  cases e : ds.reverse[i]? with
  | none => rw [e] at hx; cases hx
  | some d =>
    rw [e] at hx
    cases hx
    have hi : i < ds.length := by
      have := (List.getElem?_eq_some_iff.mp e).1
      simpa using this
    rw [List.getElem?_reverse hi] at e
    obtain ⟨v, hv, hd⟩ := q.get e
    refine ⟨⟨hi, xs, v, h3, hv⟩, fun w H3 hy => ?_⟩
    obtain ⟨rfl, hy⟩ := hy
    have := (hy xs h3).symm.trans hv
    cases this
    exact ⟨Same.refl _, hd⟩
theorem srv_revT {a : Addr} {xs : List V} {ds : List PyData} (h : SqT K (hid ρ m H) a xs) (q : DtA K (hid ρ m H) xs ds) : Serves K ρ m H (ItvT K a xs.length) (ds.reverse.map EV.d) noC := by
  intro ρ2 m2 H2 g R _ i
  have h3 : SqT K H2 a xs := sqt_same hid_le (sqt_same g.same h)
  refine ⟨fun hl => by show xs.length ≤ i; rw [q.len]; simpa using hl, fun x hx => ?_⟩
  rw [List.getElem?_map] at hx
  cases e : ds.reverse[i]? with
  | none => rw [e] at hx; cases hx
  | some d =>
    rw [e] at hx
    cases hx
    have hi : i < ds.length := by
      have := (List.getElem?_eq_some_iff.mp e).1
      simpa using this
    rw [List.getElem?_reverse hi] at e
    obtain ⟨v, hv, hd⟩ := q.get e
    rw [← q.len] at hv hi
    refine ⟨⟨hi, xs, v, h3, hv⟩, fun w H3 hy => ?_⟩
    obtain ⟨rfl, hy⟩ := hy
    have := (hy xs h3).symm.trans hv
    cases this
    exact ⟨Same.refl _, Dt.mono g.same d hd⟩
theorem srv_enum {a : Addr} {ds : List PyData} {C : Mem → Prop} (s : Src K ρ m H a ds C) : Serves K ρ m H (Ite K a) (ds.zipIdx.map fun p => EV.d (.tuple [.int (p.2 : Nat), p.1])) C := by
  intro ρ2 m2 H2 g R c i
  obtain ⟨xs, h2, q⟩ := s ρ2 m2 H2 g R c
  have h3 : SqL K H2 a xs := .inl (.inl h2)
  refine ⟨fun hl => ⟨xs, h3, by rw [q.len]; simpa using hl⟩, fun x hx => ?_⟩
  rw [List.getElem?_map, List.getElem?_zipIdx] at hx
  cases e : ds[i]? with
  | none => rw [e] at hx; cases hx
  | some d =>
    rw [e] at hx
    cases hx
    obtain ⟨v, hv, hd⟩ := q.get e
    refine ⟨⟨xs, v, h3, hv⟩, fun w H3 hy => ?_⟩
    obtain ⟨T, z, rfl, nT, rfl, hz⟩ := hy
    have := (hz xs h3).symm.trans hv
    cases this
    obtain ⟨R3, g3, e3⟩ := R.new (o := .tup [.int (i : Nat), v]) nT
    refine ⟨fun b u hb => by rw [upd_ne (ne_of_none hb nT)]; exact hb, ?_⟩
    refine Dt.tup (.inl (.inl e3)) (.cons ?_ (.cons (Dt.mono g3.same d hd) .nil))
    simp only [Nat.zero_add]
    exact Dt.int _
end
section
variable {X : Cx} {tg a b : Expr} {f g : ME} {p pos : Pos}
theorem q_iany (ha : PE X a (rd X.K f)) : PI X tg a (ri X.K (iAny f)) := by
  refine ⟨fun pins s σ H Rr I h => ?_⟩
  obtain ⟨ρ, e, m, R, E, xs, C, m', hr, k⟩ := h
  unfold iAny at hr
  split at hr
  · rename_i ds m1 h
    cases hr
    refine (pi_list (tg := tg) ha).run pins s σ H Rr I (rd_mk R E h fun v H1 ρ1 g1 R1 E1 r1 => ?_)
    obtain ⟨a, ys, rfl, h2, h3⟩ := dt_list r1
    exact ⟨a, rfl, ⟨ys, .inl (.inl (hid_some h2).1)⟩, k _ H1 ρ1 g1 R1 (srv_list (src_d h2 h3))⟩
  · rename_i ds m1 h
    cases hr
    refine (pi_tup (tg := tg) ha).run pins s σ H Rr I (rd_mk R E h fun v H1 ρ1 g1 R1 E1 r1 => ?_)
    obtain ⟨a, ys, rfl, h2, h3⟩ := dt_tuple r1
    exact ⟨a, rfl, ⟨ys, sqt_same hid_le h2⟩, k _ H1 ρ1 g1 R1 (srv_tup h2 h3)⟩
  · rename_i z m1 h
    cases hr
    refine (pi_str (tg := tg) ha).run pins s σ H Rr I (rd_mk R E h fun v H1 ρ1 g1 R1 E1 r1 => ?_)
    cases r1
    exact ⟨z, rfl, k _ H1 ρ1 g1 R1 srv_str⟩
  · rename_i j m1 h
    split at hr
    · rename_i ds hj
      cases hr
      refine (pi_list (tg := tg) ha).run pins s σ H Rr I (rd_mk R E h fun v H1 ρ1 g1 R1 E1 r1 => ?_)
      obtain ⟨a, a1, rfl⟩ := r1
      obtain ⟨ys, y1, _⟩ := R1.ok j a _ a1 hj
      exact ⟨a, rfl, ⟨ys, .inl (.inl y1)⟩, k _ H1 ρ1 g1 R1 (srv_list (src_l a1))⟩
    · cases hr
  · cases hr
theorem q_irng1 (hg : Gl X "range") (hm : X.mg "range" = none) (ha : PE X a (rd X.K f)) (hs : starEach [a] X.env = [(false, eval a X.env)] := by rfl) : PI X tg (.Call (.Name "range" p) [a] [] pos) (ri X.K (iRg1 f)) :=
  PI.imp (pi_range1 hg hm (pa_cons ha pa_nil hs) hs) fun σ H Rr ⟨ρ, e, m, R, E, xs, C, m', hr, k⟩ => by
    unfold iRg1 at hr
    split at hr
    · rename_i j m1 h
      split at hr
      · rename_i hj
        cases hr
        refine rd_mk R E h fun v H1 ρ1 g1 R1 E1 r1 => ?_
        cases r1
        exact ⟨j, rfl, hj.1, hj.2, k _ H1 ρ1 g1 R1 srv_rng⟩
      · cases hr
    · cases hr
theorem q_irng2 (hg : Gl X "range") (hm : X.mg "range" = none) (ha : PE X a (rd X.K f)) (hb : PE X b (rd X.K g)) (hs : starEach [a, b] X.env = [(false, eval a X.env), (false, eval b X.env)] := by rfl) (hs2 : starEach [b] X.env = [(false, eval b X.env)] := by rfl) :
    PI X tg (.Call (.Name "range" p) [a, b] [] pos) (ri X.K (iRg2 f g)) :=
  PI.imp (pi_range2 hg hm (pa_cons ha (pa_cons hb pa_nil hs2) (by rw [hs, hs2])) hs hs2) fun σ H Rr ⟨ρ, e, m, R, E, xs, C, m', hr, k⟩ => by
    unfold iRg2 at hr
    split at hr
    · rename_i i m1 h
      split at hr
      · rename_i j m2 h2
        split at hr
        · rename_i hj
          cases hr
          refine rd_mk R E h fun v H1 ρ1 g1 R1 E1 r1 => ?_
          refine rd_mk R1 E1 h2 fun v2 H2 ρ2 g2 R2 E2 r2 => ?_
          cases r1
          cases r2
          exact ⟨i, j, rfl, hj, k _ H2 ρ2 (g1.trans g2) R2 srv_rng⟩
        · cases hr
      · cases hr
    · cases hr
theorem q_irev (hg : Gl X "reversed") (hm : X.mg "reversed" = none) (ha : PE X a (rd X.K f)) (hs : starEach [a] X.env = (false, eval a X.env) :: starEach [] X.env := by rfl) : PI X tg (.Call (.Name "reversed" p) [a] [] pos) (ri X.K (iRv f)) :=
  PI.imp (pi_revA hg hm ha hs) fun σ H Rr ⟨ρ, e, m, R, E, xs, C, m', hr, k⟩ => by
    unfold iRv at hr
    split at hr
    · rename_i ds m1 h
      cases hr
      refine rd_mk R E h fun v H1 ρ1 g1 R1 E1 r1 => ?_
      obtain ⟨a, ys, rfl, h2, h3⟩ := dt_list r1
      exact ⟨a, ys, rfl, .inl ⟨.inl (.inl (hid_some h2).1), k _ H1 ρ1 g1 R1 (srv_rev (src_d h2 h3) h3.len)⟩⟩
    · rename_i ds m1 h
      cases hr
      refine rd_mk R E h fun v H1 ρ1 g1 R1 E1 r1 => ?_
      obtain ⟨a, ys, rfl, h2, h3⟩ := dt_tuple r1
      exact ⟨a, ys, rfl, .inr ⟨sqt_same hid_le h2, k _ H1 ρ1 g1 R1 (srv_revT h2 h3)⟩⟩
    · rename_i j m1 h
      split at hr
      · rename_i ds hj
        cases hr
        refine rd_mk R E h fun v H1 ρ1 g1 R1 E1 r1 => ?_
        obtain ⟨a, a1, rfl⟩ := r1
        obtain ⟨ys, y1, y2⟩ := R1.ok j a _ a1 hj
        exact ⟨a, ys, rfl, .inl ⟨.inl (.inl y1), k _ H1 ρ1 g1 R1 (srv_rev (src_l a1) y2.len)⟩⟩
      · cases hr
    · cases hr
theorem q_ienum {elts : List Expr} {kk : Nat} {tpos : Pos} (hg : Gl X "enumerate") (hm : X.mg "enumerate" = none) (ha : PE X a (rd X.K f)) (hs : starEach [a] X.env = [(false, eval a X.env)] := by rfl) : PI X (.Tuple elts kk tpos) (.Call (.Name "enumerate" p) [a] [] pos) (ri X.K (iEn f)) :=
  PI.imp (pi_enum hg hm (pa_cons ha pa_nil hs) hs) fun σ H Rr ⟨ρ, e, m, R, E, xs, C, m', hr, k⟩ => by
    unfold iEn at hr
    split at hr
    · rename_i ds m1 h
      cases hr
      refine rd_mk R E h fun v H1 ρ1 g1 R1 E1 r1 => ?_
      obtain ⟨a, ys, rfl, h2, h3⟩ := dt_list r1
      exact ⟨a, ys, rfl, .inl (.inl (hid_some h2).1), k _ H1 ρ1 g1 R1 (srv_enum (src_d h2 h3))⟩
    · rename_i j m1 h
      split at hr
      · rename_i ds hj
        cases hr
        refine rd_mk R E h fun v H1 ρ1 g1 R1 E1 r1 => ?_
        obtain ⟨a, a1, rfl⟩ := r1
        obtain ⟨ys, y1, y2⟩ := R1.ok j a _ a1 hj
        exact ⟨a, ys, rfl, .inl (.inl y1), k _ H1 ρ1 g1 R1 (srv_enum (src_l a1))⟩
      · cases hr
    · cases hr
end

/-! ### for -/
open Classical in
noncomputable def forL (g : MG) (b : MS) (C : Mem → Prop) : List EV → MS
  | [], e, m => if C m then some (.nx e, m) else none
  | x :: xs, e, m => if C m then (match g x e m with
    | some e1 => match b e1 m with
      | some (.nx e2, m2) => forL g b C xs e2 m2
      | some (.ct e2, m2) => forL g b C xs e2 m2
      | some (.bk e2, m2) => some (.nx e2, m2)
      | some (.rt r, m2) => some (.rt r, m2)
      | none => none
    | none => none) else none
noncomputable def sFor (it : MIt) (g : MG) (b : MS) : MS := fun e m => match it e m with
  | some (xs, C, m1) => forL g b C xs e m1
  | none => none
theorem q_for {X : Cx} {tg iter : Expr} {body : List Stmt} {it : MIt} {g : MG} {b : MS} {vs : List Nat} {pos : Pos} (hp : PassesOwn (model X.prog X.w) X.A X.env X.xe) (hc : X.calm = true) (hi : PI X tg iter (ri X.K it)) (hg : PG X tg (rg X.K vs g)) (hb : PSs X body (rs X.K b))
    (hs : ∀ x, foldedSetIterable iter X.env x = pure x := by intro _; rfl) : PS X (.For tg iter body [] pos) (rs X.K (sFor it g b)) := by
  refine PS.imp (ps_for hp hc hi hg hb hs) fun D σ H h => ?_
  obtain ⟨ρ, e, m, R, E, o, m', hr, k⟩ := h
  unfold sFor at hr
  split at hr
  · rename_i xs C m1 h1
    refine ⟨ρ, e, m, R, E, xs, C, m1, h1, fun J H1 ρ1 g1 R1 sv => ?_⟩
    have E1 := E.gr g1
    have k1 := k.gr g1
    refine ⟨fun i mm σ2 H2 => mm = xs.length - i ∧ i ≤ xs.length ∧ ∃ ρ2 e2 m2, Gr ρ1 m1 H1 ρ2 m2 H2 ∧ RelM X.K H2 ρ2 m2 ∧ EnvR X.K (hid ρ2 m2 H2) ρ2 σ2 e2 ∧ ∃ o m', forL g b C (xs.drop i) e2 m2 = some (o, m') ∧ Fin' X.K ρ2 m2 H2 D m' o,
      ⟨_, rfl, Nat.zero_le _, ρ1, e, m1, .refl, R1, E1, o, m', hr, k1⟩, ?_⟩
    rintro i mm σ2 H2 ⟨rfl, hle, ρ2, e2, m2, g2, R2, E2, o2, m3, hf, k2⟩
    by_cases hlt : i < xs.length
    · have hx : xs[i]? = some xs[i] := List.getElem?_eq_getElem hlt
      rw [List.drop_eq_getElem_cons hlt] at hf
      simp only [forL] at hf
      split at hf
      case isFalse => cases hf
      rename_i hC
      obtain ⟨sv1, sv2⟩ := sv ρ2 m2 H2 g2 R2 hC i
      obtain ⟨go, yl⟩ := sv2 _ hx
      cases q1 : g xs[i] e2 m2 with
      | none => rw [q1] at hf; cases hf
      | some e3 =>
        rw [q1] at hf
        dsimp only at hf
        refine .inr ⟨go, fun σ4 H4 => ∃ ρ4 e4 m4, Gr ρ1 m1 H1 ρ4 m4 H4 ∧ RelM X.K H4 ρ4 m4 ∧ EnvR X.K (hid ρ4 m4 H4) ρ4 σ4 e4 ∧ ∃ o m', forL g b C (xs.drop (i + 1)) e4 m4 = some (o, m') ∧ Fin' X.K ρ4 m4 H4 D m' o, fun σ4 H4 ⟨ρ4, e4, m4, z1, z2, z3, z4⟩ => ⟨xs.length - (i + 1), by omega, rfl, hlt, ρ4, e4, m4, z1, z2, z3, z4⟩, fun v H3 hy => ?_⟩
        obtain ⟨sm, hv⟩ := yl v H3 hy
        obtain ⟨R3, g3⟩ := R2.grow sm
        refine ⟨ρ2, e2, m2, _, R3, E2.gr g3, hv, e3, q1, fun σ5 _ E5 => ?_⟩
        cases q2 : b e3 m2 with
        | none => rw [q2] at hf; cases hf
        | some om =>
          obtain ⟨o5, m5⟩ := om
          rw [q2] at hf
          refine ⟨ρ2, e3, m2, R3, E5, o5, m5, q2, ?_⟩
          have k3 := k2.gr g3
          cases o5 with
          | nx e5 => exact fun σ6 H6 ρ6 g6 R6 E6 => ⟨ρ6, e5, m5, (g2.trans g3).trans g6, R6, E6, o2, m3, hf, k3.gr g6⟩
          | ct e5 => exact fun σ6 H6 ρ6 g6 R6 E6 => ⟨ρ6, e5, m5, (g2.trans g3).trans g6, R6, E6, o2, m3, hf, k3.gr g6⟩
          | bk e5 => cases hf; exact k3
          | rt r => cases hf; exact k3
    · have hn : xs.drop i = [] := List.drop_eq_nil_of_le (by omega)
      rw [hn] at hf
      simp only [forL] at hf
      split at hf
      case isFalse => cases hf
      rename_i hC
      cases hf
      obtain ⟨sv1, sv2⟩ := sv ρ2 m2 H2 g2 R2 hC i
      exact .inl ⟨sv1 (by omega), k2 σ2 H2 ρ2 .refl R2 E2⟩
  · cases hr

/-! ### [e for x in xs if c] -/
def cYes : MB := fun _ m => some (true, m)
def wipeE (e : Env') : List Nat → Env'
  | [] => e
  | v :: vs => (wipeE e vs).set v none
theorem wipeE_len {e : Env'} : ∀ {vs : List Nat}, (wipeE e vs).length = e.length
  | [] => rfl
  | v :: vs => by unfold wipeE; rw [List.length_set, wipeE_len]
theorem wipeE_get {e : Env'} : ∀ {vs : List Nat} {i : Nat} {x : EV}, (wipeE e vs)[i]? = some (some x) → e[i]? = some (some x) ∧ i ∉ vs
  | [], _, _, h => ⟨h, by simp⟩
  | v :: vs, i, x, h => by
    unfold wipeE at h
    rw [List.getElem?_set] at h
    split at h
    · split at h <;> cases h
    · rename_i hn
      obtain ⟨h1, h2⟩ := wipeE_get h
      exact ⟨h1, by rw [List.mem_cons]; exact fun z => z.elim (fun z => hn z.symm) h2⟩
theorem EnvR.wipe {K : Frg} {G : Hp} {ρ : List Addr} {σ : L2.St} {e : Env'} (E : EnvR K G ρ σ e) (vs : List Nat) : EnvR K G ρ (L2.wipe σ vs) (wipeE e vs) := by
  refine ⟨by rw [wipe_length, wipeE_len, E.len], fun i x hx => ?_⟩
  obtain ⟨h1, h2⟩ := wipeE_get hx
  obtain ⟨v, h3, h4⟩ := E.get i x h1
  refine ⟨v, ?_, h4⟩
  rw [wipe_get, if_neg (fun z => h2 z.1)]
  exact h3
open Classical in
noncomputable def lcL (g : MG) (c : MB) (f : ME) (n : Nat) (C : Mem → Prop) (e0 : Env') : List EV → Mem → Option Mem
  | [], m => if C m then some m else none
  | x :: xs, m => if C m then (match g x e0 m with
    | some e1 => match c e1 m with
      | some (true, m1) => match f e1 m1 with
        | some (.d y, m2) => match m2[n]? with
          | some (.lst acc) => if acc.length < sizeLine then lcL g c f n C e0 xs (m2.set n (.lst (acc ++ [y]))) else none
          | _ => none
        | _ => none
      | some (false, m1) => lcL g c f n C e0 xs m1
      | none => none
    | none => none) else none
/-- the list that is made stands behind what stood -/
noncomputable def eLc (it : MIt) (g : MG) (c : MB) (f : ME) (vs : List Nat) : ME := fun e m => match it e m with
  | some (xs, C, m1) => match lcL g c f m1.length C (wipeE e vs) xs (m1 ++ [.lst []]) with
    | some m2 => some (.l m1.length, m2)
    | none => none
  | none => none
end DL
set_option Elab.async false
set_option linter.all false
set_option maxRecDepth 100000
set_option maxHeartbeats 4000000
namespace DL
open PySem PySem.Spec PyProof.Rows L2

/-! ### a thing of the memory is written -/
theorem hid_write {ρ : List Addr} {m : Mem} {H : Hp} {i : Nat} {a : Addr} {o o' : MO} {u : HO} (h1 : ρ[i]? = some a) (h2 : m[i]? = some o) (ho : o ≠ .gone) (ho' : o' ≠ .gone) : hid ρ (m.set i o') (upd H a u) = hid ρ m H := by
  have hh : ∀ b, Hid ρ (m.set i o') b ↔ Hid ρ m b := by
    intro b
    have hi := (List.getElem?_eq_some_iff.mp h2).1
    constructor
    · rintro ⟨j, z, e1, e2, e3⟩
      rw [List.getElem?_set] at e2
      by_cases hij : i = j
      · subst hij
        exact ⟨i, o, e1, h2, ho⟩
      · rw [if_neg hij] at e2
        exact ⟨j, z, e1, e2, e3⟩
    · rintro ⟨j, z, e1, e2, e3⟩
      by_cases hij : i = j
      · subst hij
        exact ⟨i, o', e1, by rw [List.getElem?_set, if_pos rfl, if_pos hi], ho'⟩
      · exact ⟨j, z, e1, by rw [List.getElem?_set, if_neg hij]; exact e2, e3⟩
  have ha : Hid ρ m a := ⟨i, o, h1, h2, ho⟩
  funext b
  by_cases hb : Hid ρ m b
  · have hb' := (hh b).mpr hb
    unfold hid
    rw [if_pos hb, if_pos hb']
  · have hb' : ¬ Hid ρ (m.set i o') b := fun z => hb ((hh b).mp z)
    rw [hid_no hb, hid_no hb', upd_ne]
    intro e
    subst e
    exact hb ha
theorem RelM.write {K : Frg} {ρ : List Addr} {m : Mem} {H : Hp} (R : RelM K H ρ m) {i : Nat} {a : Addr} {o o' : MO} {u : HO} (h1 : ρ[i]? = some a) (h2 : m[i]? = some o) (ho : o ≠ .gone) (ho' : o' ≠ .gone)
    (ok : MOk K (hid ρ m H) ρ (upd H a u) a o') : RelM K (upd H a u) ρ (m.set i o') ∧ Gr ρ m H ρ (m.set i o') (upd H a u) := by
  have e := hid_write (H := H) (u := u) h1 h2 ho ho'
  refine ⟨⟨by rw [List.length_set]; exact R.len, R.nd, fun b hb => ?_, fun j b z e1 e2 => ?_⟩, List.prefix_refl _, by rw [e]; exact Same.refl _⟩
  · by_cases hba : b = a
    · rw [hba, upd_same]; exact fun z => nomatch z
    · rw [upd_ne hba]; exact R.al b hb
  · rw [e]
    rw [List.getElem?_set] at e2
    by_cases hij : i = j
    · subst hij
      rw [if_pos rfl] at e2
      split at e2
      · cases e2
        rw [h1] at e1
        cases e1
        exact ok
      · cases e2
    · rw [if_neg hij] at e2
      have nb : b ≠ a := by
        intro q
        subst q
        have hl := (List.getElem?_eq_some_iff.mp h1).1
        exact hij ((List.getElem?_inj hl R.nd).mp (h1.trans e1.symm))
      exact (R.ok j b z e1 e2).mono (Same.refl _) (List.prefix_refl _) (.inl (by rw [upd_ne nb]))
theorem RelM.lst {K : Frg} {ρ : List Addr} {m : Mem} {H : Hp} (R : RelM K H ρ m) {i : Nat} {a : Addr} {ds : List PyData} (h1 : ρ[i]? = some a) (h2 : m[i]? = some (.lst ds)) : ∃ xs, H a = some (.lst xs) ∧ DtA K (hid ρ m H) xs ds := R.ok i a _ h1 h2
theorem RelM.dct {K : Frg} {ρ : List Addr} {m : Mem} {H : Hp} (R : RelM K H ρ m) {i : Nat} {a : Addr} {kvs : List (Key × PyData)} (h1 : ρ[i]? = some a) (h2 : m[i]? = some (.dct kvs)) : ∃ ys, H a = some (.dK ys) ∧ KvR K (hid ρ m H) ys kvs := R.ok i a _ h1 h2

/-! ### comprehensions -/
theorem wipe_wipe {σ : L2.St} {vs : List Nat} : wipe (wipe σ vs) vs = wipe σ vs := by
  apply List.ext_getElem?
  intro j
  rw [wipe_get, wipe_get, wipe_length]
  by_cases hj : j ∈ vs ∧ j < σ.length
  · rw [if_pos hj, if_pos hj]
  · rw [if_neg hj, if_neg hj]
theorem PTs.imp {X : Cx} {e : List Expr} {t t' : TT} (h : PTs X e t) (w : ∀ σ H Q, t' σ H Q → t σ H Q) : PTs X e t' := ⟨fun pins s σ H Q I q => h.run pins s σ H Q I (w _ _ _ q)⟩
theorem q_tsnil {X : Cx} : PTs X [] (rb X.K cYes) := PTs.imp pts_nil fun σ H Q ⟨ρ, e, m, R, E, r, m', hr, k⟩ => by
  cases hr
  exact k H ρ .refl R
theorem q_tsone {X : Cx} {c : Expr} {f : MB} (h : PT X c (rb X.K f)) : PTs X [c] (rb X.K f) := pts_one h
theorem rd_lc {K : Frg} {it : MIt} {g : MG} {c : MB} {f : ME} {vs : List Nat} {σ : L2.St} {H : Hp} {Q : VK} (h : rd K (eLc it g c f vs) σ H Q) : tLc (ri K it) (rg K vs g) (rb K c) (rd K f) vs σ H Q := by
  obtain ⟨ρ, e, m, R, E, r, m', hr, k⟩ := h
  unfold eLc at hr
  split at hr
  case h_2 => cases hr
  rename_i xs C m1 h1
  split at hr
  case h_2 => cases hr
  rename_i mL hL
  cases hr
  refine ⟨ρ, e, m, R, E, xs, C, m1, h1, fun J H1 ρ1 g1 R1 sv D hD => ?_⟩
  have E1 := E.gr g1
  have nD : ∀ (ρ2 : List Addr), ρ1 ++ [D] <+: ρ2 → ρ2[m1.length]? = some D := fun ρ2 hp => by
    refine pre_get hp ?_
    rw [← R1.len, List.getElem?_append_right (Nat.le_refl _), Nat.sub_self]
    rfl
  obtain ⟨R2, g2⟩ := R1.push (o := .lst []) (u := .lst []) hD ⟨[], upd_same, .nil⟩
  refine ⟨fun i mm H2 => mm = xs.length - i ∧ i ≤ xs.length ∧ ∃ ρ2 m2, Gr (ρ1 ++ [D]) (m1 ++ [.lst []]) (upd H1 D (.lst [])) ρ2 m2 H2 ∧ RelM K H2 ρ2 m2 ∧ lcL g c f m1.length C (wipeE e vs) (xs.drop i) m2 = some m',
    ⟨_, rfl, Nat.zero_le _, _, _, .refl, R2, hL⟩, ?_⟩
  rintro i mm H2 ⟨rfl, hle, ρ2, m2, g3, R3, hf⟩
  have g13 := g2.trans g3
  by_cases hlt : i < xs.length
  · have hx : xs[i]? = some xs[i] := List.getElem?_eq_getElem hlt
    rw [List.drop_eq_getElem_cons hlt] at hf
    simp only [lcL] at hf
    split at hf
    case isFalse => cases hf
    rename_i hC
    obtain ⟨sv1, sv2⟩ := sv ρ2 m2 H2 g13 R3 hC i
    obtain ⟨go, yl⟩ := sv2 _ hx
    refine .inr ⟨go, fun H4 => ∃ ρ4 m4, Gr (ρ1 ++ [D]) (m1 ++ [.lst []]) (upd H1 D (.lst [])) ρ4 m4 H4 ∧ RelM K H4 ρ4 m4 ∧ lcL g c f m1.length C (wipeE e vs) (xs.drop (i + 1)) m4 = some m',
      fun H4 ⟨ρ4, m4, z⟩ => ⟨xs.length - (i + 1), by omega, rfl, hlt, ρ4, m4, z⟩, fun v H3 hy => ?_⟩
    obtain ⟨sm, hv⟩ := yl v H3 hy
    obtain ⟨R4, g4⟩ := R3.grow sm
    cases q1 : g xs[i] (wipeE e vs) m2 with
    | none => rw [q1] at hf; cases hf
    | some e3 =>
      rw [q1] at hf
      dsimp only at hf
      refine ⟨ρ2, wipeE e vs, m2, _, R4, (E1.gr (g13.trans g4)).wipe vs, hv, e3, q1, fun σ5 hw E5 => ⟨by rw [hw, wipe_wipe], ?_⟩⟩
      cases q2 : c e3 m2 with
      | none => rw [q2] at hf; cases hf
      | some bm =>
        obtain ⟨bb, m5⟩ := bm
        rw [q2] at hf
        refine rb_mk R4 E5 q2 fun H6 ρ6 g6 R6 E6 => ?_
        cases bb with
        | false =>
          rw [if_neg Bool.false_ne_true]
          exact ⟨ρ6, m5, (g3.trans g4).trans g6, R6, hf⟩
        | true =>
          rw [if_pos rfl]
          dsimp only at hf
          cases q3 : f e3 m5 with
          | none => rw [q3] at hf; cases hf
          | some ym =>
            obtain ⟨y, m7⟩ := ym
            rw [q3] at hf
            cases y with
            | l j => cases hf
            | f ds => cases hf
            | t xs => cases hf
            | o c fs => cases hf
            | d y =>
              dsimp only at hf
              split at hf
              case h_2 => cases hf
              rename_i acc ha
              split at hf
              case isFalse => cases hf
              rename_i hl
              refine rd_mk R6 E6 q3 fun w H7 ρ7 g7 R7 E7 r7 => ?_
              have gg := ((g3.trans g4).trans g6).trans g7
              have hD7 := nD ρ7 gg.pre
              obtain ⟨ws, hw1, hw2⟩ := R7.lst hD7 ha
              refine ⟨ws, hw1, by rw [hw2.len]; exact hl, ?_⟩
              obtain ⟨R8, g8⟩ := R7.write (o' := .lst (acc ++ [y])) (u := .lst (ws ++ [w])) hD7 ha (fun z => nomatch z) (fun z => nomatch z) ⟨_, upd_same, hw2.app (.cons r7 .nil)⟩
              exact ⟨ρ7, _, gg.trans g8, R8, hf⟩
  · have hn : xs.drop i = [] := List.drop_eq_nil_of_le (by omega)
    rw [hn] at hf
    simp only [lcL] at hf
    split at hf
    case isFalse => cases hf
    rename_i hC
    cases hf
    obtain ⟨sv1, sv2⟩ := sv ρ2 _ H2 g13 R3 hC i
    exact .inl ⟨sv1 (by omega), k _ H2 ρ2 (g1.trans g13) R3 ⟨D, nD ρ2 g3.pre, rfl⟩⟩
section
variable {X : Cx} {elt tg iter : Expr} {ifs : List Expr} {scope : Scope} {own : List (Str × Nat)} {pos spos py : Pos} {it : MIt} {g : MG} {c : MB} {f : ME} {i : Nat} {y : Str}
theorem q_lc (hc : X.calm = true) (hN : X.N.Nodup) (hi : PI X tg iter (ri X.K it)) (ok : BlkOk X.N X.env.scope scope own)
    (hg : ∀ (s : Shared) (H : Hp) (C : Addr) (cl : List (Str × Addr)) (fp : List Addr), PG (X.blk s H scope (compEnvC scope cl C X.env) fp) tg (rg X.K (own.map (·.2)) g))
    (ht : ∀ (s : Shared) (H : Hp) (C : Addr) (cl : List (Str × Addr)) (fp : List Addr), PTs (X.blk s H scope (compEnvC scope cl C X.env) fp) ifs (rb X.K c))
    (he : ∀ (s : Shared) (H : Hp) (C : Addr) (cl : List (Str × Addr)) (fp : List Addr), PE (X.blk s H scope (compEnvC scope cl C X.env) fp) elt (rd X.K f)) (hs : ∀ x, foldedSetIterable iter X.env x = pure x := by intro _; rfl) :
    PE X (.ListComp elt [⟨tg, iter, ifs, 0⟩] scope pos) (rd X.K (eLc it g c f (own.map (·.2)))) :=
  PE.imp (pe_lc hc hN hi ok hg ht he hs) fun _ _ _ h => rd_lc h
theorem q_setLc (hc : X.calm = true) (hN : X.N.Nodup) (hy : X.N[i]? = some y) (hyl : X.env.scope.names.lookup y = some .local) (hsw : swapsWith (.ListComp elt [⟨tg, iter, ifs, 0⟩] scope pos) (some (.Name y py)) spos.line X.env = pure true) (hi : PI X tg iter (ri X.K it)) (ok : BlkOk X.N X.env.scope scope own)
    (hg : ∀ (s : Shared) (H : Hp) (C : Addr) (cl : List (Str × Addr)) (fp : List Addr), PG (X.blk s H scope (compEnvC scope cl C X.env) fp) tg (rg X.K (own.map (·.2)) g))
    (ht : ∀ (s : Shared) (H : Hp) (C : Addr) (cl : List (Str × Addr)) (fp : List Addr), PTs (X.blk s H scope (compEnvC scope cl C X.env) fp) ifs (rb X.K c))
    (he : ∀ (s : Shared) (H : Hp) (C : Addr) (cl : List (Str × Addr)) (fp : List Addr), PE (X.blk s H scope (compEnvC scope cl C X.env) fp) elt (rd X.K f)) (hs : ∀ x, foldedSetIterable iter X.env x = pure x := by intro _; rfl) :
    PS X (.Assign [.Name y py] (.ListComp elt [⟨tg, iter, ifs, 0⟩] scope pos) spos) (rs X.K (sSet i (eLc it g c f (own.map (·.2))))) :=
  PS.imp (ps_setLc hc hN hy hyl hsw hi ok hg ht he hs) fun D σ H ⟨ρ, e, m, R, E, o, m', hr, k⟩ => by
    unfold sSet at hr
    split at hr
    · rename_i v m1 h
      cases hr
      refine rd_lc ?_
      exact rd_mk R E h fun v1 H1 ρ1 g1 R1 E1 r1 => k _ H1 ρ1 g1 R1 (E1.set i r1)
    · cases hr
end
mutual
theorem evr_low {K : Frg} {G G0 : Hp} {ρ ρ' : List Addr} (p : ρ <+: ρ') : ∀ (x : EV) {v v0 : V}, EvR K G ρ' v x → EvR K G0 ρ v0 x → EvR K G ρ v x
  | .d x, _, _, h, _ => by rw [EvR] at h ⊢; exact h
  | .f ds, _, _, h, _ => by rw [EvR] at h ⊢; exact h
  | .o c fs, _, _, h, _ => by rw [EvR] at h ⊢; exact h
  | .l i, _, _, h, h0 => by
    rw [EvR] at h h0 ⊢
    obtain ⟨a, h1, h2⟩ := h
    obtain ⟨b, b1, b2⟩ := h0
    rw [pre_get p b1] at h1
    cases h1
    exact ⟨_, b1, h2⟩
  | .t xs, _, _, h, h0 => by
    rw [EvR] at h h0 ⊢
    obtain ⟨a, vs, h1, h2, h3⟩ := h
    obtain ⟨b, ws, b1, b2, b3⟩ := h0
    exact ⟨a, vs, h1, h2, evall_low p xs h3 b3⟩
theorem evall_low {K : Frg} {G G0 : Hp} {ρ ρ' : List Addr} (p : ρ <+: ρ') : ∀ (xs : List EV) {vs vs0 : List V}, EvAll K G ρ' vs xs → EvAll K G0 ρ vs0 xs → EvAll K G ρ vs xs
  | [], _, _, h, _ => by rw [EvAll] at h ⊢; exact h
  | x :: xs, _, _, h, h0 => by
    rw [EvAll] at h h0 ⊢
    obtain ⟨w, ws, h1, h2, h3⟩ := h
    obtain ⟨w0, ws0, b1, b2, b3⟩ := h0
    exact ⟨w, ws, h1, evr_low p x h2 b2, evall_low p xs h3 b3⟩
end
/-- a place of the memory that a statement has just made, held as data: the statement's own value is frozen -/
theorem rs_frz {K : Frg} {f : ME} {i : Nat} {D : Ends} {σ : L2.St} {H : Hp} (h : rs K (sSet i (eFrz f)) D σ H) : rs K (sSet i f) D σ H := by
  obtain ⟨ρ, e, m, R, E, o, m', hr, k⟩ := h
  unfold sSet at hr
  split at hr
  case h_2 => cases hr
  rename_i v m1 h
  cases hr
  unfold eFrz at h
  split at h
  · rename_i x m2 h2
    cases h
    exact ⟨ρ, e, m, R, E, _, _, by unfold sSet; rw [h2], k⟩
  · rename_i j m2 h2
    split at h
    case isFalse => cases h
    rename_i hj
    obtain ⟨rfl, hl⟩ := hj
    split at h
    case h_2 => cases h
    rename_i x hx
    cases h
    refine ⟨ρ, e, m, R, E, .nx (e.set i (some (.l m.length))), m2, by unfold sSet; rw [h2], fun σ' H' ρ' g R' E' => ?_⟩
    have e1 : ρ'.take m.length = ρ := by rw [← R.len]; exact take_pre g.pre
    have R2 := R'.take m.length
    have s2 : Same (hid ρ' m2 H') (hid (ρ'.take m.length) (m2.take m.length) H') := hid_take _
    rw [e1] at R2 s2
    refine k σ' H' ρ ⟨List.prefix_refl _, g.same.trans s2⟩ R2 ⟨by rw [List.length_set, E'.len, List.length_set], fun t y hy => ?_⟩
    rw [List.getElem?_set] at hy
    by_cases hit : i = t
    · subst hit
      rw [if_pos rfl] at hy
      split at hy
      · rename_i hlt
        cases hy
        obtain ⟨v, v1, v2⟩ := E'.get i (.l m.length) (by rw [List.getElem?_set, if_pos rfl, if_pos hlt])
        refine ⟨v, v1, ?_⟩
        have := frz_dt R' v2 hx
        rw [e1] at this
        exact this
      · cases hy
    · rw [if_neg hit] at hy
      obtain ⟨v, v1, v2⟩ := E'.get t y (by rw [List.getElem?_set, if_neg hit]; exact hy)
      have : EvR K (hid ρ (m2.take m.length) H') ρ' v y := EvR.mono s2 (List.prefix_refl _) v2
      refine ⟨v, v1, ?_⟩
      obtain ⟨w0, _, hw0⟩ := E.get t y hy
      exact evr_low g.pre y this hw0
  · cases h
theorem q_sfrz {X : Cx} {st : Stmt} {f : ME} {i : Nat} (h : PS X st (rs X.K (sSet i f))) : PS X st (rs X.K (sSet i (eFrz f))) := PS.imp h fun D σ H q => rs_frz q
end DL
set_option Elab.async false
set_option linter.all false
set_option maxRecDepth 100000
set_option maxHeartbeats 4000000
namespace DL
open PySem PySem.Spec PyProof.Rows L2

/-! ### append -/
def eApp (f g : ME) : ME := fun e m => match f e m with
  | some (.l i, m1) => match m1[i]? with
    | some (.lst _) => match g e m1 with
      | some (.d x, m2) => match m2[i]? with
        | some (.lst ds) => if ds.length < sizeLine then some (.d .none, m2.set i (.lst (ds ++ [x]))) else none
        | _ => none
      | _ => none
    | _ => none
  | _ => none
section
variable {X : Cx} {o a : Expr} {f g : ME} {apos cpos : Pos}
theorem q_app (ho : PE X o (rd X.K f)) (ha : PE X a (rd X.K g)) (hb : attributeBase o "append" X.env (eval o X.env) = eval o X.env := by rfl)
    (hfew : ((((backTo cpos (starEach (a :: []) X.env)).all fun x => !x.1) && (backToKw cpos (keywordEach [] X.env)).all fun x => x.1.isSome) && decide (((a :: []).length + ([] : List Keyword).length + if ([] : List Keyword).isEmpty = true then 0 else 1) < 30)) = true := by rfl)
    (hl : (apos.endLine == cpos.line) = true := by rfl) (h1 : starEach [a] X.env = (false, eval a X.env) :: starEach [] X.env := by rfl) (h2 : ((backTo cpos (starEach [] X.env)).any fun x => x.1) = false := by rfl) :
    PE X (.Call (.Attribute o "append" apos) [a] [] cpos) (rd X.K (eApp f g)) :=
  PE.imp (pe_bm PySem.F.plainAttrs_list PySem.F.slot_list_append PySem.F.type_list_append mt_append ho (pa_cons ha pa_nil h1) hb hfew hl h1 h2) fun σ H Q ⟨ρ, e, m, R, E, r, m', hr, k⟩ => by
    unfold eApp at hr
    split at hr
    case h_2 => cases hr
    rename_i i m1 q1
    split at hr
    case h_2 => cases hr
    rename_i ds0 q0
    split at hr
    case h_2 => cases hr
    rename_i x m2 q2
    split at hr
    case h_2 => cases hr
    rename_i ds q3
    split at hr
    case isFalse => cases hr
    rename_i hl
    cases hr
    refine rd_mk R E q1 fun v1 H1 ρ1 g1 R1 E1 r1 => ?_
    obtain ⟨b, b1, rfl⟩ := r1
    obtain ⟨xs0, x1, _⟩ := R1.lst b1 q0
    refine ⟨.inl ⟨rfl, xs0, .inl (.inl x1)⟩, ?_⟩
    refine rd_mk R1 E1 q2 fun v2 H2 ρ2 g2 R2 E2 r2 => ?_
    have b2 := pre_get g2.pre b1
    obtain ⟨xs, y1, y2⟩ := R2.lst b2 q3
    obtain ⟨R3, g3⟩ := R2.write (o' := .lst (ds ++ [x])) (u := .lst (xs ++ [v2])) b2 q3 (fun z => nomatch z) (fun z => nomatch z) ⟨_, upd_same, y2.app (.cons r2 .nil)⟩
    exact ⟨b, xs, v2, rfl, rfl, y1, by rw [y2.len]; exact hl, k _ _ ρ2 ((g1.trans g2).trans g3) R3 Dt.non⟩
end

/-! ### a dict of the memory: d[k], d[k] = v, by a written key -/
def getP (kvs : List (Key × PyData)) (k : Key) : Option PyData := (kvs.find? fun p => decide (p.1 = k)).map (·.2)
def putP (kvs : List (Key × PyData)) (k : Key) (v : PyData) : List (Key × PyData) :=
  if (kvs.any fun p => decide (p.1 = k)) = true then kvs.map fun p => if p.1 = k then (p.1, v) else p else kvs ++ [(k, v)]
def keyOf : PyData → Option Key
  | .int i => some (.inl i)
  | .str s => some (.inr s)
  | _ => none
theorem keyOf_v {K : Frg} {G : Hp} {v : V} {d : PyData} {k : Key} (h : Dt K G v d) (e : keyOf d = some k) : v = kV k := by
  cases h <;> first | (cases e; rfl) | cases e
theorem kv_get {K : Frg} {G : Hp} {k : Key} {d : PyData} : ∀ {ys : List (Key × V)} {kvs : List (Key × PyData)}, KvR K G ys kvs → getP kvs k = some d → ∃ v, valV ys k = some v ∧ Dt K G v d
  | _, _, .nil, e => by simp [getP] at e
  | (k1, v) :: ys, (k2, d2) :: kvs, .cons h q, e => by
    obtain ⟨h1, h2⟩ := h
    have h1' : k1 = k2 := h1
    subst h1'
    unfold getP at e
    unfold valV
    rw [List.find?_cons] at e ⊢
    by_cases hk : k1 = k
    · simp only [hk, decide_true] at e ⊢
      cases e
      exact ⟨v, rfl, h2⟩
    · simp only [hk, decide_false] at e ⊢
      exact kv_get q e
theorem kv_any {K : Frg} {G : Hp} {k : Key} : ∀ {ys : List (Key × V)} {kvs : List (Key × PyData)}, KvR K G ys kvs → (ys.any fun p => decide (p.1 = k)) = (kvs.any fun p => decide (p.1 = k))
  | _, _, .nil => rfl
  | (k1, v) :: ys, (k2, d2) :: kvs, .cons h q => by
    obtain ⟨h1, h2⟩ := h
    have h1' : k1 = k2 := h1
    subst h1'
    rw [List.any_cons, List.any_cons, kv_any q]
theorem kv_map {K : Frg} {G : Hp} {k : Key} {w : V} {d : PyData} (hd : Dt K G w d) : ∀ {ys : List (Key × V)} {kvs : List (Key × PyData)}, KvR K G ys kvs → KvR K G (ys.map fun p => if p.1 = k then (p.1, w) else p) (kvs.map fun p => if p.1 = k then (p.1, d) else p)
  | _, _, .nil => .nil
  | (k1, v) :: ys, (k2, d2) :: kvs, .cons h q => by
    obtain ⟨h1, h2⟩ := h
    have h1' : k1 = k2 := h1
    subst h1'
    rw [List.map_cons, List.map_cons]
    refine .cons ?_ (kv_map hd q)
    by_cases hk : k1 = k
    · simp only [hk, if_true]; exact ⟨trivial, hd⟩
    · simp only [hk, if_false]; exact ⟨trivial, h2⟩
theorem KvR.app {K : Frg} {G : Hp} : ∀ {ys zs : List (Key × V)} {kvs lvs : List (Key × PyData)}, KvR K G ys kvs → KvR K G zs lvs → KvR K G (ys ++ zs) (kvs ++ lvs)
  | _, _, _, _, .nil, r => r
  | _, _, _, _, .cons h q, r => .cons h (KvR.app q r)
theorem KvR.len {K : Frg} {G : Hp} : ∀ {ys : List (Key × V)} {kvs : List (Key × PyData)}, KvR K G ys kvs → ys.length = kvs.length
  | _, _, .nil => rfl
  | _, _, .cons _ q => by rw [List.length_cons, List.length_cons, KvR.len q]
theorem kv_put {K : Frg} {G : Hp} {k : Key} {w : V} {d : PyData} (hd : Dt K G w d) {ys : List (Key × V)} {kvs : List (Key × PyData)} (h : KvR K G ys kvs) : KvR K G (putK ys k w) (putP kvs k d) := by
  unfold putK putP
  rw [kv_any h]
  split
  · exact kv_map hd h
  · exact h.app (.cons ⟨rfl, hd⟩ .nil)
def eGet (f g : ME) : ME := fun e m => match f e m with
  | some (.l i, m1) => match g e m1 with
    | some (.d x, m2) => match m2[i]? with
      | some (.dct kvs) => match keyOf x with
        | some k => match getP kvs k with
          | some d => some (.d d, m2)
          | none => none
        | none => none
      | _ => none
    | _ => none
  | _ => none
def sPut (fv fo fi : ME) : MS := fun e m => match fv e m with
  | some (.d x, m1) => match fo e m1 with
    | some (.l i, m2) => match fi e m2 with
      | some (.d y, m3) => match m3[i]? with
        | some (.dct kvs) => match keyOf y with
          | some k => if kvs.length < sizeLine then some (.nx e, m3.set i (.dct (putP kvs k x))) else none
          | none => none
        | _ => none
      | _ => none
    | _ => none
  | _ => none
section
variable {X : Cx} {o a val : Expr} {f g fv : ME} {pos pos' : Pos}
theorem q_get (hu : X.A.units + 1 < cLine) (ho : PE X o (rd X.K f)) (ha : PE X a (rd X.K g)) (hs : NoSl a := by intro _ _; rfl) : PE X (.Subscript o a pos) (rd X.K (eGet f g)) :=
  PE.imp (pe_dget hu ho ha hs) fun σ H Q ⟨ρ, e, m, R, E, r, m', hr, k⟩ => by
    unfold eGet at hr
    split at hr
    case h_2 => cases hr
    rename_i i m1 q1
    split at hr
    case h_2 => cases hr
    rename_i x m2 q2
    split at hr
    case h_2 => cases hr
    rename_i kvs q3
    split at hr
    case h_2 => cases hr
    rename_i kk q4
    split at hr
    case h_2 => cases hr
    rename_i d q5
    cases hr
    refine rd_mk R E q1 fun v1 H1 ρ1 g1 R1 E1 r1 => ?_
    refine rd_mk R1 E1 q2 fun v2 H2 ρ2 g2 R2 E2 r2 => ?_
    obtain ⟨b, b1, rfl⟩ := r1
    obtain ⟨ys, y1, y2⟩ := R2.dct (pre_get g2.pre b1) q3
    obtain ⟨w, w1, w2⟩ := kv_get y2 q5
    exact ⟨b, w, rfl, .inl ⟨ys, kk, .inl y1, keyOf_v r2 q4, w1.symm⟩, k _ H2 ρ2 (g1.trans g2) R2 w2⟩
theorem q_put (hu : X.A.units + 1 < cLine) (ho : PE X o (rd X.K f)) (ha : PE X a (rd X.K g)) (hv : PE X val (rd X.K fv)) (hs : swapsWith val (some (.Subscript o a pos')) pos.line X.env = pure false := by rfl) :
    PS X (.Assign [.Subscript o a pos'] val pos) (rs X.K (sPut fv f g)) :=
  PS.imp (ps_dput hu ho ha hv hs) fun D σ H ⟨ρ, e, m, R, E, oo, m', hr, k⟩ => by
    unfold sPut at hr
    split at hr
    case h_2 => cases hr
    rename_i x m1 q1
    split at hr
    case h_2 => cases hr
    rename_i i m2 q2
    split at hr
    case h_2 => cases hr
    rename_i y m3 q3
    split at hr
    case h_2 => cases hr
    rename_i kvs q4
    split at hr
    case h_2 => cases hr
    rename_i kk q5
    split at hr
    case isFalse => cases hr
    rename_i hl
    cases hr
    refine rd_mk R E q1 fun v1 H1 ρ1 g1 R1 E1 r1 => ?_
    refine rd_mk R1 E1 q2 fun v2 H2 ρ2 g2 R2 E2 r2 => ?_
    refine rd_mk R2 E2 q3 fun v3 H3 ρ3 g3 R3 E3 r3 => ?_
    obtain ⟨b, b1, rfl⟩ := r2
    have b3 := pre_get g3.pre b1
    obtain ⟨ys, y1, y2⟩ := R3.dct b3 q4
    have r1' := (r1.gr g2).gr g3
    obtain ⟨R4, g4⟩ := R3.write (o' := .dct (putP kvs kk x)) (u := .dK (putK ys kk v1)) b3 q4 (fun z => nomatch z) (fun z => nomatch z) ⟨_, upd_same, kv_put r1' y2⟩
    exact ⟨b, _, rfl, .inl ⟨ys, kk, y1, keyOf_v r3 q5, by rw [y2.len]; exact hl, rfl⟩, k σ _ ρ3 (((g1.trans g2).trans g3).trans g4) R4 (E3.gr g4)⟩
end
/-! ### xs[i] = v of a list of the memory -/
def sSetIx (fv fo fi : ME) : MS := fun e m => match fv e m with
  | some (.d x, m1) => match fo e m1 with
    | some (.l i, m2) => match fi e m2 with
      | some (.d (.int y), m3) => match m3[i]? with
        | some (.lst ds) => match ixN ds.length y with
          | some j => some (.nx e, m3.set i (.lst (ds.set j x)))
          | none => none
        | _ => none
      | _ => none
    | _ => none
  | _ => none
section
variable {X : Cx} {o a val : Expr} {f g fv : ME} {pos pos' : Pos}
theorem q_setIx (ho : PE X o (rd X.K f)) (ha : PE X a (rd X.K g)) (hv : PE X val (rd X.K fv))
    (hs : swapsWithSole [.Subscript o a pos'] val pos.line X.env = pure false := by rfl) (hw : swappedStores [.Subscript o a pos'] val X.env = pure none := by rfl) (h1 : (assignEach [.Subscript o a pos'] X.env).map (·.2) = [assign (.Subscript o a pos') X.env] := by rfl)
    (hg : ∀ {to ti : TE} {t : TSet}, PE X o to → PE X a ti → PSet X t → PG X (.Subscript o a pos') (gSub to ti t) := by intro _ _ _ h1 h2 h3; exact pg_sub h1 h2 h3) :
    PS X (.Assign [.Subscript o a pos'] val pos) (rs X.K (sSetIx fv f g)) :=
  PS.imp (ps_asg hv (hg ho ha set_list) hs hw h1) fun D σ H ⟨ρ, e, m, R, E, oo, m', hr, k⟩ => by
    unfold sSetIx at hr
    split at hr
    case h_2 => cases hr
    rename_i x m1 q1
    split at hr
    case h_2 => cases hr
    rename_i i m2 q2
    split at hr
    case h_2 => cases hr
    rename_i y m3 q3
    split at hr
    case h_2 => cases hr
    rename_i ds q4
    split at hr
    case h_2 => cases hr
    rename_i j q5
    cases hr
    refine rd_mk R E q1 fun v1 H1 ρ1 g1 R1 E1 r1 => ?_
    refine rd_mk R1 E1 q2 fun v2 H2 ρ2 g2 R2 E2 r2 => ?_
    refine rd_mk R2 E2 q3 fun v3 H3 ρ3 g3 R3 E3 r3 => ?_
    obtain ⟨b, b1, rfl⟩ := r2
    cases r3
    have b3 := pre_get g3.pre b1
    obtain ⟨ys, y1, y2⟩ := R3.lst b3 q4
    have r1' := (r1.gr g2).gr g3
    obtain ⟨R4, g4⟩ := R3.write (o' := .lst (ds.set j x)) (u := .lst (ys.set j v1)) b3 q4 (fun z => nomatch z) (fun z => nomatch z) ⟨_, upd_same, y2.set r1' j⟩
    exact ⟨b, ys, y, j, rfl, rfl, y1, by rw [y2.len]; exact q5, k σ _ ρ3 (((g1.trans g2).trans g3).trans g4) R4 (E3.gr g4)⟩
end
/-! ### a new list as a place of the memory: x = [a, ..] -/
def eLstL (f : MA) : ME := fun e m => match f e m with
  | some (xs, m1) => match asD xs with
    | some ds => if ds.length ≤ sizeLine then some (.l m1.length, m1 ++ [.lst ds]) else none
    | none => none
  | none => none
section
variable {X : Cx} {pos : Pos} {es : List Expr} {fa : MA}
theorem q_lstL (h : PA X es (ra X.K fa)) : PE X (.List es pos) (rd X.K (eLstL fa)) := PE.imp (pe_lst h) fun σ H Q ⟨ρ, e, m, R, E, r, m', hr, k⟩ => by
  unfold eLstL at hr
  split at hr
  case h_2 => cases hr
  rename_i xs m1 h1
  split at hr
  case h_2 => cases hr
  rename_i ds h2
  split at hr
  case isFalse => cases hr
  rename_i hl
  cases hr
  refine ra_mk R E h1 fun vs H1 ρ1 g1 R1 E1 q => ?_
  have hd := asD_dta q h2
  refine ⟨by rw [hd.len]; exact hl, fun p hp => ?_⟩
  have hs := hid_app (o := .lst ds) (u := .lst vs) R1.len hp
  obtain ⟨R2, g2⟩ := R1.push (o := .lst ds) (u := .lst vs) hp ⟨vs, upd_same, DtA.mono hs _ hd⟩
  refine k _ _ (ρ1 ++ [p]) (g1.trans g2) R2 ⟨p, ?_, rfl⟩
  rw [← R1.len, List.getElem?_append_right (Nat.le_refl _), Nat.sub_self]
  rfl
end
/-! ### {k: v, ..} as a place of the memory, the keys written texts -/
def mPairs : List (Str × ME) → Env' → Mem → Option (List (Key × PyData) × Mem)
  | [], _, m => some ([], m)
  | (k, f) :: r, e, m => match f e m with
    | some (.d x, m1) => match mPairs r e m1 with
      | some (kvs, m2) => some ((.inr k, x) :: kvs, m2)
      | none => none
    | _ => none
def eDct (ps : List (Str × ME)) : ME := fun e m => match mPairs ps e (m ++ [.dct []]) with
  | some (kvs, m1) => match m1[m.length]? with
    | some (.dct []) => if kvs.length ≤ 15 then some (.l m.length, m1.set m.length (.dct (kvs.foldl (fun acc p => putP acc p.1 p.2) []))) else none
    | _ => none
  | none => none
def trsOf (K : Frg) (ps : List (Str × ME)) : List (TE × TE) := ps.map fun p => (tC (.str p.1), rd K p.2)
theorem pairs_ok {K : Frg} {e : Env'} {σ : L2.St} : ∀ {ps : List (Str × ME)} {ρ : List Addr} {m m' : Mem} {H : Hp} {kvs : List (Key × PyData)} {Q : List (V × V) → Hp → Prop}, RelM K H ρ m → EnvR K (hid ρ m H) ρ σ e → mPairs ps e m = some (kvs, m') →
    (∀ ys H' ρ', Gr ρ m H ρ' m' H' → RelM K H' ρ' m' → KvR K (hid ρ' m' H') ys kvs → Q (ys.map fun kv => (kV kv.1, kv.2)) H') → tPairs (trsOf K ps) σ H Q
  | [], ρ, m, m', H, kvs, Q, R, E, h, k => by
    cases h
    exact k [] H ρ .refl R .nil
  | (x, f) :: ps, ρ, m, m', H, kvs, Q, R, E, h, k => by
    simp only [mPairs] at h
    split at h
    case h_2 => cases h
    rename_i d m1 h1
    split at h
    case h_2 => cases h
    rename_i lvs m2 h2
    cases h
    show rd K f σ H fun y H1 => tPairs (trsOf K ps) σ H1 fun l H2 => Q ((V.str x, y) :: l) H2
    refine rd_mk R E h1 fun v1 H1 ρ1 g1 R1 E1 r1 => ?_
    refine pairs_ok R1 E1 h2 fun ys H2 ρ2 g2 R2 q2 => ?_
    exact k ((.inr x, v1) :: ys) H2 ρ2 (g1.trans g2) R2 (.cons ⟨rfl, r1.gr g2⟩ q2)
theorem kv_fold {K : Frg} {G : Hp} : ∀ {ys : List (Key × V)} {kvs : List (Key × PyData)} {a : List (Key × V)} {b : List (Key × PyData)}, KvR K G ys kvs → KvR K G a b → KvR K G (ys.foldl (fun acc p => putK acc p.1 p.2) a) (kvs.foldl (fun acc p => putP acc p.1 p.2) b)
  | _, _, _, _, .nil, h => h
  | (k1, v) :: ys, (k2, d2) :: kvs, _, _, .cons h q, hab => by
    obtain ⟨h1, h2⟩ := h
    have h1' : k1 = k2 := h1
    subst h1'
    rw [List.foldl_cons, List.foldl_cons]
    exact kv_fold (ys := ys) (kvs := kvs) q (kv_put h2 hab)
theorem q_dct {X : Cx} {pos : Pos} {keys : List (Option Expr)} {values : List Expr} {ps : List (Str × ME)} (h : PPs X pos keys values (trsOf X.K ps)) (hall : keys.all (·.isSome) = true := by rfl) (hl : keys.length = values.length := by rfl) (h0 : keys ≠ [] := by exact fun z => nomatch z)
    (h15 : keys.length ≤ 15 := by decide) : PE X (.Dict keys values pos) (rd X.K (eDct ps)) :=
  PE.imp (pe_disp h hall hl h0 h15) fun σ H Q ⟨ρ, e, m, R, E, r, m', hr, k⟩ => by
    unfold eDct at hr
    split at hr
    case h_2 => cases hr
    rename_i kvs m1 h1
    split at hr
    case h_2 => cases hr
    rename_i hc1
    split at hr
    case isFalse => cases hr
    rename_i hc2
    have hc := And.intro hc1 hc2
    cases hr
    intro p hp
    obtain ⟨R1, g1⟩ := R.push (o := .dct []) (u := .dK []) hp ⟨[], upd_same, .nil⟩
    refine pairs_ok R1 (E.gr g1) h1 fun ys H2 ρ2 g2 R2 q2 => ?_
    have hp2 : ρ2[m.length]? = some p := by
      refine pre_get g2.pre ?_
      rw [← R.len, List.getElem?_append_right (Nat.le_refl _), Nat.sub_self]
      rfl
    obtain ⟨zs, z1, z2⟩ := R2.dct hp2 hc.1
    cases z2
    refine ⟨z1, ys, rfl, by rw [q2.len]; exact hc.2, ?_⟩
    obtain ⟨R3, g3⟩ := R2.write (o' := .dct (kvs.foldl (fun acc p => putP acc p.1 p.2) [])) (u := .dK (mergeK [] ys)) hp2 hc.1 (fun z => nomatch z) (fun z => nomatch z) ⟨_, upd_same, kv_fold q2 .nil⟩
    exact k _ _ ρ2 ((g1.trans g2).trans g3) R3 ⟨p, hp2, rfl⟩
/-! ### {} -/
def eDct0 : ME := fun _ m => some (.d (.dict []), m)
theorem q_dct0 {X : Cx} {pos : Pos} : PE X (.Dict [] [] pos) (rd X.K eDct0) := PE.imp pe_dnewK fun σ H Q ⟨ρ, e, m, R, E, r, m', hr, k⟩ => by
  cases hr
  intro p hp
  obtain ⟨R', g, e1⟩ := R.new (o := .dK []) hp
  exact k _ _ ρ g R' (Dt.dic e1 .nil)
/-! ### join, global constants, n += e -/
def joinD : PyData → PyData → Option PyData
  | .str a, .list xs => match asS xs with
    | some ys => if (ys.map (·.length)).sum + ys.length * a.length ≤ 16777216 then some (.str (Txt.join a ys)) else none
    | none => none
  | _, _ => none
section
variable {X : Cx} {o a : Expr} {f g : ME} {apos pos : Pos}
theorem q_join (ho : PE X o (rd X.K f)) (ha : PE X a (rd X.K g)) (hs : starEach [a] X.env = [(false, eval a X.env)] := by rfl) (hb : attributeBase o "join" X.env (eval o X.env) = eval o X.env := by rfl) (hl : (apos.endLine == pos.line) = true := by rfl) :
    PE X (.Call (.Attribute o "join" apos) [a] [] pos) (rd X.K (eBin joinD f g)) :=
  PE.imp (pe_join ho ha hs hb hl) fun σ H Q ⟨ρ, e, m, R, E, r, m', hr, k⟩ => by
    obtain ⟨x, m1, y, dx, dy, z, q1, q2, q3, q4, q5, rfl⟩ := eBin_some hr
    unfold joinD at q5
    split at q5
    case h_2 => cases q5
    rename_i sa xs
    split at q5
    case h_2 => cases q5
    rename_i ys hy
    split at q5
    case isFalse => cases q5
    rename_i hz
    cases q5
    refine rd_mk R E q1 fun v1 H1 ρ1 g1 R1 E1 r1 => ?_
    have hx : v1 = .str sa := by
      cases x with
      | d x => cases q3; cases r1; rfl
      | f ds => cases q3
      | t xs => cases q3
      | o c fs => cases q3
      | l i =>
        simp only [vw] at q3
        split at q3 <;> cases q3
    subst hx
    refine ⟨⟨_, rfl⟩, ?_⟩
    refine rd_mk R1 E1 q2 fun v2 H2 ρ2 g2 R2 E2 r2 => ?_
    obtain ⟨b, ws, rfl, w1, w2⟩ := (vw_of R2 r2 q4).list hid_le
    cases asS_v w2 hy
    exact ⟨sa, b, ys, rfl, rfl, .inl (.inl (.inl w1)), hz, k _ H2 ρ2 (g1.trans g2) R2 (Dt.str _)⟩
theorem q_glob {x : Str} {v : V} {u : Value} {d : PyData} (hg : Gl X x) (hm : X.mg x = some u) (r : RelV v u) (hd : ∀ G, Dt X.K G v d) (hdb : (x == ("__debug__" : Str)) = false := by decide) : PE X (.Name x pos) (rd X.K (eC d)) := q_c (pe_glob hg hm r hdb) hd
end
def sAug (i : Nat) (p : Int → Int → Int) (f : ME) : MS := fun e m => match e[i]? with
  | some (some (.d (.int x))) => match f e m with
    | some (.d (.int y), m1) => some (.nx (e.set i (some (.d (.int (p x y))))), m1)
    | _ => none
  | _ => none
theorem q_aug {X : Cx} {i : Nat} {x : Str} {a : Expr} {f : ME} {op : Operator} {p : Int → Int → Int} {pos pos' : Pos} (hN : X.N.Nodup) (hi : X.N[i]? = some x) (hx : Loc X.env.scope x) (ha : PE X a (rd X.K f)) (ho : PIp X op (ipI p)) (hf : X.fn x = true ∨ X.env.scope.names.lookup x = some .local := by first | exact .inl rfl | exact .inr rfl | assumption) :
    PS X (.AugAssign (.Name x pos') op a pos) (rs X.K (sAug i p f)) :=
  PS.imp (ps_aug hN hi hx ha ho hf) fun D σ H ⟨ρ, e, m, R, E, oo, m', hr, k⟩ => by
    unfold sAug at hr
    split at hr
    case h_2 => cases hr
    rename_i y q1
    split at hr
    case h_2 => cases hr
    rename_i z m1 q2
    cases hr
    obtain ⟨v, v1, v2⟩ := E.get i _ q1
    cases v2
    refine ⟨_, v1, ?_⟩
    refine rd_mk R E q2 fun v2 H1 ρ1 g1 R1 E1 r1 => ?_
    cases r1
    exact ⟨y, z, rfl, rfl, k _ H1 ρ1 g1 R1 (E1.set i (x := .d (.int (p y z))) (Dt.int _))⟩
end DL
set_option Elab.async false
set_option linter.all false
set_option maxRecDepth 100000
set_option maxHeartbeats 4000000
namespace DL
open PySem PySem.Spec PyProof.Rows L2

/-! ### the law's call: nothing stands yet but the script -/
section
variable {P : Program} {w : World} {K : Frg} {mg mb : Str → Option Value} {k : Nat} {fa a : Addr} {fd : FuncData} {x : Str} {F : MF} {s1 : Shared} {vs : List Value} {ns : List Int}
abbrev Done (s1 : Shared) : Result → Shared → Prop := fun r s' => r = .ok (.ret (.bool true)) ∧ OldK s1.heap s'.heap ∧ s'.os = s1.os ∧ AllBare s'.gens
theorem law_core {H : Hp} (kx : K.In s1.heap) (hns : s1.heap.Ns mainGlobals mg) (hb : s1.heap.Ns builtinsNs mb) (hbb : ∀ x : Str, x ≠ "__name__" → mb x = bootBuiltins x) (hlim : s1.heap.NoLimit) (hg : s1.gens = #[])
    (ha : s1.heap.get? a = some { cls := .type "list", data := .seq vs.toArray }) (hr : Room k callerA) (G : ∀ base : Heap, K.In base → base.Ns mainGlobals mg → FnG P w K mg base k fa fd [x] F)
    (bd : ∀ (s : Shared) (u : Value), BindsTo s fd ⟨[u], []⟩ [(x, u)]) (hF : ∃ m', F [.f (ns.map PyData.int)] [] = some (.d (.bool true), m'))
    (hO : ∀ b, H b = none ∨ ∃ o xs, H b = some (.frz o (.lst xs))) (hS : SqL K H a (ns.map V.int)) (hok : HOk P w H s1.heap) (hA : ∀ b, H b ≠ none → b = a) (hK : H a ≠ none → K.lookup a = none) :
    codeAny (model P w) callerA (.call (.ref fa) ⟨[.ref a], []⟩) (Done s1) s1 := by
  -- what is not the script stays in the base
  have stays : ∀ {b : Addr} {o : Obj}, s1.heap.get? b = some o → H b = none → (hidT s1.heap H).get? b = some o := fun e n => hidT_get e n
  have notDict : ∀ {b : Addr} {o : Obj} {es : Array DictEntry} {ep : Nat}, s1.heap.get? b = some o → o.data = .dict es ep → H b = none := by
    intro b o es ep e d
    cases q : H b with
    | none => rfl
    | some u =>
      cases hA b (by rw [q]; exact fun z => nomatch z)
      rw [ha] at e
      cases e
      cases d
  have keepNs : ∀ {b : Addr} {m : Str → Option Value}, s1.heap.Ns b m → (hidT s1.heap H).Ns b m := by
    rintro b m ⟨o, es, ep, e, d, r⟩
    exact ⟨o, es, ep, stays e (notDict e d), d, r⟩
  have kb : K.In (hidT s1.heap H) := by
    intro b o e
    refine stays (kx b o e) ?_
    cases q : H b with
    | none => rfl
    | some u =>
      cases hA b (by rw [q]; exact fun z => nomatch z)
      rw [hK (by rw [q]; exact fun z => nomatch z)] at e
      cases e
  have md : Mod K mg (hidT s1.heap H) := by
    obtain ⟨mc, c1, c2⟩ := hlim
    exact ⟨kb, keepNs hns, ⟨mb, keepNs hb, hbb⟩, ⟨mc, keepNs c1, c2⟩⟩
  have e0 : Env0 P w K mg (hidT s1.heap H) callerA [] s1 H :=
    { frames := rfl, mod := md, bs := fun b o e => of_hidT e, bsz := Nat.le_of_eq (hidT_size _ _), funs := trivial, frf := fun b hb => absurd (show b ∈ ([] : List Addr) from hb) (by simp), hok := hok, bare := .of_eq hg }
  have R0 : RelM K H [] [] := ⟨rfl, List.nodup_nil, fun b hb => absurd hb (by simp), fun i b o e => by simp at e⟩
  have hh : hid [] [] H = H := by
    funext b
    exact hid_no (fun ⟨i, o, e, _⟩ => by simp at e)
  have dta : ∀ l : List Int, DtA K H (l.map V.int) (l.map PyData.int) := by
    intro l
    induction l with
    | nil => exact .nil
    | cons n l ih => exact .cons (.int n) ih
  obtain ⟨m', hF⟩ := hF
  have sp0 : spD K F [.ref a] H (fun v _ => v = .bl true) E0 := by
    refine ⟨[], [], [.f (ns.map PyData.int)], R0, .cons ?_ .nil, _, m', hF, fun v H' ρ' _ _ hv => ?_⟩
    · rw [hh]
      exact ⟨a, _, rfl, hS, dta ns⟩
    · cases hv
      rfl
  refine codeAny_mono ((G _ kb (keepNs hns)).run callerA [] s1 H ⟨[.ref a], []⟩ [.ref a] [.ref a] _ rfl hr e0 (bd s1 (.ref a)) (.cons rfl .nil) sp0) fun r s2 hq => ?_
  match r, hq with
  | .error e, hq => exact False.elim hq
  | .ok .next, hq => exact False.elim hq
  | .ok .brk, hq => exact False.elim hq
  | .ok .cont, hq => exact False.elim hq
  | .ok (.ret u), hq =>
    obtain ⟨v, H', os, bare, un, hok2, rv, q⟩ := hq
    cases (show v = .bl true from q)
    cases (show u = Value.bool true from rv)
    refine ⟨rfl, OldK.of_keep fun b o e => ?_, os, bare⟩
    rcases hO b with z | ⟨ob, xs, z⟩
    · exact un.keep b o e z (by intro z; exact absurd (show b ∈ ([] : List Addr) from z) (by simp)) (by simp)
    · obtain ⟨e2, _⟩ := hok2 b _ (un.frzs b ob _ z)
      obtain ⟨e1, _⟩ := hok b _ z
      rw [e] at e1
      cases e1
      exact e2
theorem law_g (kx : K.In s1.heap) (hns : s1.heap.Ns mainGlobals mg) (hb : s1.heap.Ns builtinsNs mb) (hbb : ∀ x : Str, x ≠ "__name__" → mb x = bootBuiltins x) (hlim : s1.heap.NoLimit) (hg : s1.gens = #[])
    (ha : s1.heap.get? a = some { cls := .type "list", data := .seq vs.toArray }) (hi : IntsAre vs ns) (hl : ns.length ≤ sizeLine) (hr : Room k callerA) (G : ∀ base : Heap, K.In base → base.Ns mainGlobals mg → FnG P w K mg base k fa fd [x] F)
    (bd : ∀ (s : Shared) (u : Value), BindsTo s fd ⟨[u], []⟩ [(x, u)]) (hF : ∃ m', F [.f (ns.map PyData.int)] [] = some (.d (.bool true), m')) :
    codeAny (model P w) callerA (.call (.ref fa) ⟨[.ref a], []⟩) (Done s1) s1 := by
  have rv := vals_ints hi
  cases hk : K.lookup a with
  | some o =>
    -- an object of the module's own
    have e := kx a o hk
    rw [ha] at e
    cases e
    refine law_core (H := fun _ => none) kx hns hb hbb hlim hg ha hr G bd hF (fun _ => .inl rfl) ?_ (fun b u z => by have z' : (none : Option HO) = some u := z; cases z') (fun b z => absurd rfl z) fun z => absurd rfl z
    exact .inr ⟨_, vs.toArray, _, hk, rfl, rfl, rfl, by rw [List.size_toArray, hi.length]; exact hl, by simpa using rv⟩
  | none =>
    have at1 : ∀ (b : Addr) (u : HO), (if b = a then some (HO.frz { cls := .type "list", data := .seq vs.toArray } (.lst (ns.map V.int))) else none) = some u → b = a ∧ u = HO.frz { cls := .type "list", data := .seq vs.toArray } (.lst (ns.map V.int)) := by
      intro b u z
      split at z
      · cases z; exact ⟨by assumption, rfl⟩
      · cases z
    refine law_core (H := fun b => if b = a then some (.frz { cls := .type "list", data := .seq vs.toArray } (.lst (ns.map V.int))) else none) kx hns hb hbb hlim hg ha hr G bd hF (fun b => ?_) (.inl (.inr ⟨_, if_pos rfl⟩)) (fun b u z => ?_) (fun b z => ?_) fun _ => hk
    · by_cases e : b = a
      · exact .inr ⟨_, _, if_pos e⟩
      · exact .inl (if_neg e)
    · obtain ⟨rfl, rfl⟩ := at1 b u z
      exact ⟨ha, by rw [List.length_map]; exact hl, vs, _, rv, ha⟩
    · by_cases e : b = a
      · exact e
      · exact absurd (if_neg e) z
end
/-- the goal that is left of the head -/
theorem walk_g {l : PySem.W.OpenLaw} {n k : Nat} {q : Program} {loose : List Str} {XP : (Str → Option Value) → Heap → Prop} {YP : World → Heap → Prop} {d : DefRec} {K : Params → Frg} {F : MF} {x : Str}
    (hn : l.most = some n) (hn2 : n ≤ sizeLine) (hdf : d.params.defaults = []) (hr : Room k callerA) (hY : ∀ (w : World) (h : Heap), YP w h → (K w.params).In h)
    (G : ∀ (w : World) (mg : Str → Option Value) (fa : Addr) (h : Heap), (K w.params).In h → h.Ns mainGlobals mg → mg d.name = some (.ref fa) →
      ∃ fd : FuncData, (∀ (s : Shared) (u : Value), BindsTo s fd ⟨[u], []⟩ [(x, u)]) ∧ ∀ base : Heap, (K w.params).In base → base.Ns mainGlobals mg → FnG l.prog w (K w.params) mg base k fa fd [x] F)
    (hF : ∀ ns : List Int, ns.length ≤ n → ∃ m', F [.f (ns.map PyData.int)] [] = some (.d (.bool true), m')) :
    PySem.W.WalkO q loose XP YP l.row.toRowW d [] (fun f vs => PySem.call f vs) := by
  refine Att.attach_call hn hdf fun w s0 s1 mg mb fa o pm cd doc a vs ns Gr Y ho hd hcd hmg hobj hints hlen hg => ?_
  have kx := hY w _ Y
  obtain ⟨fd, bd, hG⟩ := G w mg fa _ kx Gr.T.g hmg
  exact law_g kx Gr.T.g Gr.T.b Gr.T.builtins Gr.T.nolimit hg hobj hints (Nat.le_trans hlen hn2) hr hG bd (hF ns hlen)
end DL
set_option Elab.async false
set_option linter.all false
set_option maxRecDepth 100000
set_option maxHeartbeats 4000000
/-! x[::-1] of a list or a tuple; few times the empty tuple; a call with lists lent -/
namespace DLr
open PySem PySem.Spec PyProof.Rows HT
section
variable {prog : Program} {w : World} {A : Around} {E : Value → Shared → Prop} {s : Shared}
theorem adj_rev (n : Nat) : Builtin.Slice.sliceAdjust none none (-1) (n : Int) = ((n : Int) - 1, -1) := by
  unfold Builtin.Slice.sliceAdjust
  have h1 : (-1 : Int) < 0 := by omega
  simp only [h1, if_true] <;> (first | rfl | (congr 1 <;> omega))
theorem places_rev (n : Nat) : Builtin.Slice.slicePlaces ((n : Int) - 1) (-1) (-1) = n := by
  unfold Builtin.Slice.slicePlaces
  have h1 : ¬ (-1 : Int) > 0 := by omega
  have h2 : -(-1 : Int) = 1 := by omega
  simp only [h1, if_false, h2, Int.ediv_one]
  split <;> omega
theorem applied_rev {sl : Addr} {vs : Value} {n : Nat} {Q : Int × Int × Nat → Shared → Prop} (hs : s.heap.IsSliceOf sl .none .none vs) (ps : IsPart vs (some (-1))) (h : Q ((n : Int) - 1, -1, n) s) :
    wpAny (model prog w) A (Builtin.Slice.sliceApplied (.ref sl) (pure (n : Int))) Q E s := by
  obtain ⟨os, hos, hcs, hds⟩ := id hs
  unfold Builtin.Slice.sliceApplied Builtin.Slice.sliceFields
  refine wpAny_bind (wpAny_bind (wpAny_field hos hds (x := .none) rfl (wpAny_bind (wpAny_field hos hds (x := .none) rfl (wpAny_bind (wpAny_field hos hds (x := vs) rfl (wpAny_pure ?_)))))))
  refine wpAny_bind (slicePart_ ps ?_)
  show wpAny _ _ (if ((-1 : Int) == 0) = true then _ else _) _ _ s
  rw [if_neg (by decide)]
  refine wpAny_bind (slicePart_none (wpAny_bind (slicePart_none (wpAny_bind (wpAny_pure ?_)))))
  show wpAny _ _ (match Builtin.Slice.sliceAdjust none none (-1) (n : Int) with | (lo, hi) => pure (lo, (-1 : Int), Builtin.Slice.slicePlaces lo hi (-1))) _ _ s
  rw [adj_rev n]
  show wpAny _ _ (pure ((n : Int) - 1, (-1 : Int), Builtin.Slice.slicePlaces ((n : Int) - 1) (-1) (-1))) _ _ s
  rw [places_rev]
  exact wpAny_pure h
theorem pick_rev (xs : Array Value) : ((List.range xs.size).filterMap fun (m : Nat) => xs[(((xs.size : Int) - 1) + (m : Int) * (-1)).toNat]?).toArray = xs.toList.reverse.toArray := by
  congr 1
  apply List.ext_getElem?
  intro i
  have e : ∀ l : List Nat, (∀ m ∈ l, m < xs.size) → l.filterMap (fun (m : Nat) => xs[(((xs.size : Int) - 1) + (m : Int) * (-1)).toNat]?) = l.map fun m => xs.toList.reverse[m]?.getD .none := by
    intro l
    induction l with
    | nil => intro _; rfl
    | cons m l ih =>
      intro hl
      have hm : m < xs.size := hl m List.mem_cons_self
      have h1 : (((xs.size : Int) - 1) + (m : Int) * (-1)).toNat = xs.size - 1 - m := by omega
      have h2 : xs[xs.size - 1 - m]? = some (xs[xs.size - 1 - m]'(by omega)) := Array.getElem?_eq_getElem (by omega)
      have h3 : xs.toList.reverse[m]? = some (xs[xs.size - 1 - m]'(by omega)) := by
        rw [List.getElem?_reverse (by simpa using hm)]
        simp only [Array.length_toList, Array.getElem?_toList]
        exact h2
      rw [List.filterMap_cons, h1, h2, List.map_cons, h3, ih fun k hk => hl k (List.mem_cons_of_mem _ hk)]
      rfl
  rw [e _ fun m hm => List.mem_range.mp hm, List.getElem?_map]
  by_cases hi : i < xs.size
  · rw [List.getElem?_range hi, Option.map_some, List.getElem?_eq_getElem (by simpa using hi)]
    rfl
  · rw [List.getElem?_eq_none (by simpa using hi), List.getElem?_eq_none (by simpa using hi)]
    rfl
theorem getItem_rev {t sl : Addr} {items : Array Value} {vs : Value} {Q : Value → Shared → Prop} (ht : IsTup s.heap t items) (hs : s.heap.IsSliceOf sl .none .none vs) (ps : IsPart vs (some (-1)))
    (h : Q (.ref s.heap.objs.size) { s with heap := s.heap.push { cls := .type "tuple", data := .seq items.toList.reverse.toArray } }) (hsz : items.size ≤ sizeLine) : wpAny (model prog w) A (getItem (.ref t) (.ref sl)) Q E s := by
  have hok : sizeOk (.seq items.toList.reverse.toArray) := by
    show items.toList.reverse.toArray.size ≤ sizeLine
    rw [List.size_toArray, List.length_reverse, Array.length_toList]
    exact hsz
  obtain ⟨os, hos, hcs, hds⟩ := id hs
  have hTs : s.TypeIs (.ref sl) "slice" := ⟨os, hos, hcs⟩
  unfold getItem
  try with_reducible refine wpAny_holding ?_
  first | refine wpAny_bind (wpAny_pure ?_) | skip
  refine wpAny_bind (wpAny_sequenceKey ht.typeIs (by decide) ?_)
  refine wpAny_bind (wpAny_callSpecial?_slot (name := Str.ofString "__getitem__") ht.typeIs PyProof.Rows.slot_tuple_getitem
    (wpAny_call_entry PyProof.Rows.slot_tuple_getitem ht.typeIs entry_tuple_getitem ?_ (args_tuple_getitem _ _)))
  show wpAny _ _ (Builtin.Tuple.tupleItemsOf (.ref t) >>= _) _ _ s
  refine wpAny_bind (tupleItemsOf_ ht ?_)
  refine wpAny_bind (wpAny_typeOf hTs ?_)
  rw [if_pos (by decide)]
  refine wpAny_bind (applied_rev hs ps ?_)
  have hno : ¬ ((((items.size : Int) - 1) == 0 && (-1 : Int) == 1 && items.size == items.size) = true) := by
    simp
  show wpAny _ _ (if (((items.size : Int) - 1) == 0 && (-1 : Int) == 1 && items.size == items.size) = true then _ else _) _ _ s
  rw [if_neg hno, pick_rev]
  first
    | exact wpAny_bind (m := Builtin.Tuple.tupleExact _) (wpAny_newObj_type (wpAny_pure ⟨_, rfl, wpAny_pure h⟩) hok)
    | exact wpAny_bind (m := Builtin.Tuple.tupleExact _) (wpAny_newObj_type (wpAny_bind (wpAny_pure (wpAny_pure ⟨_, rfl, wpAny_pure h⟩))) hok)
    | exact wpAny_bind (wpAny_bind (m := Builtin.Tuple.tupleExact _) (wpAny_newObj_type (wpAny_pure (wpAny_pure ⟨_, rfl, wpAny_pure h⟩)) hok))
    | exact wpAny_bind (wpAny_bind (m := Builtin.Tuple.tupleExact _) (wpAny_newObj_type (wpAny_pure ⟨_, rfl, wpAny_pure h⟩) hok))
/-- the empty tuple so many times is itself -/
theorem mul_empty (l : Addr) (n : Nat) (dd : Option Addr) (sl : Array (Option Value)) (x : Int) (u : Tok) (c0 : (decide (x < -(2 ^ 63)) || decide (x ≥ 2 ^ 63)) = false) :
    Meets (Builtin.«tuple.__mul__» ⟨[.ref l, .int x u], []⟩) (fun _ R s => s.heap.get? l = some { cls := .type "tuple", dict := dd, data := .seq #[] n, slots := sl } ∧ R (.ok (.ret (Value.ref l))) s) :=
  .of_wp fun prog w A R s h => by
    obtain ⟨hp, g, d, tk, os⟩ := s
    obtain ⟨hl, h⟩ := h
    have f1 := AutoSeq1.idx_int
    wp_walk using wpAny_loadPart' hl
    repeat (first
      | (refine wpAny_ite_false (decide_eq_false (by rw [c0]; exact Bool.false_ne_true)) ?_; wp_walk using wpAny_loadPart' hl)
      | (refine wpAny_ite_true (decide_eq_true (by simp)) ?_; wp_walk using wpAny_loadPart' hl))
    exact ⟨_, rfl, h⟩
end
end DLr
namespace DL
open PySem PySem.Spec PyProof.Rows L2
section
variable {X : Cx}
theorem op_rep0 : OpR X (binaryOp .Mult) (fun x y H Q => ∃ l k, x = .ref l ∧ y = .int k ∧ SqT X.K H l [] ∧ -(2 ^ 63) ≤ k ∧ k < 2 ^ 63 ∧ Q (.ref l) H) := by
  intro pins s σ H x y v u Q I rx ry h
  obtain ⟨l, k, rfl, rfl, hT, h1, h2, q⟩ := h
  cases rx
  obtain ⟨t, rfl⟩ := ry
  obtain ⟨its, r, ⟨⟨cls, dd, data, sl⟩, ho, hc, n, hd⟩, hs⟩ := I.tuple hT
  simp only at hc hd
  subst hc hd
  cases r
  have c0 : (decide (k < -(2 ^ 63)) || decide (k ≥ 2 ^ 63)) = false := by
    rw [decide_eq_false (by omega), decide_eq_false (by omega)]
    rfl
  exact wpAny_binaryOp_repeat_ref (T := "tuple") (U := "int") (by decide) ⟨_, ho, rfl⟩ (fun s' => typeIs_int s' k t) noFill_tuple_mul F.fills_int_mul F.slot_int_rmul repeat_tuple F.slot_int_index.lookup
    (call_meets F.slot_int_rmul (typeIs_int s k t) F.entry_int_rmul (F.args_int_rmul_2 _ _) (int_rmul_tuple k t l #[] n dd sl)
      ⟨ho, rfl, ⟨_, ho, rfl⟩, call_meets F.slot_tuple_mul ⟨_, ho, rfl⟩ F.entry_tuple_mul (F.args_tuple_mul_2 _ _) (DLr.mul_empty l n dd sl k t c0) ⟨ho, .ref l, H, I, rfl, q⟩⟩)
theorem rep_size (a : Array Nat) : ∀ (n : Nat) (b : Array Nat), ((List.replicate n a).foldl (· ++ ·) b).size = b.size + n * a.size
  | 0, b => by simp
  | n + 1, b => by rw [List.replicate_succ, List.foldl_cons, rep_size a n, Array.size_append, Nat.add_mul]; omega
theorem op_repS : OpR X (binaryOp .Mult) (fun x y H Q => ∃ z k, x = .str z ∧ y = .int k ∧ 2 ≤ k ∧ k ≤ 1000 ∧ 1 ≤ z.length ∧ z.length ≤ 1000 ∧ Q (.str ⟨(List.replicate k.toNat z.cps).foldl (· ++ ·) #[]⟩) H) := by
  intro pins s σ H x y v u Q I rx ry h
  obtain ⟨z, k, rfl, rfl, h1, h2, h3, h4, q⟩ := h
  obtain ⟨t, rfl⟩ := rx
  obtain ⟨t', rfl⟩ := ry
  have c1 : (k == 1 || z.length == 0) = false := by
    rw [Bool.or_eq_false_iff]
    exact ⟨beq_eq_false_iff_ne.mpr (by omega), beq_eq_false_iff_ne.mpr (by omega)⟩
  refine P.mul_str (by rw [decide_eq_false (by omega), decide_eq_false (by omega)]; rfl) (fun _ _ => ?_) (fun _ _ => ?_) ?_
  · have hp : (z.length : Int) * k ≤ 1000 * 1000 := Int.mul_le_mul (by omega) h2 (by omega) (by omega)
    have : (z.length : Int) ≤ ((2 : Int) ^ 63 - 1) / k := (Int.le_ediv_iff_mul_le (by omega)).mpr (by omega)
    omega
  · unfold PySem.Builtin.Str.tooLong
    rw [sizeLine_eq]
    refine decide_eq_false ?_
    have : z.length * k.toNat ≤ 1000 * 1000 := Nat.mul_le_mul h4 (by omega)
    omega
  · rw [if_neg (by omega), c1, if_neg Bool.false_ne_true]
    refine ⟨?_, .str _, H, I.tok _, ⟨_, rfl⟩, q⟩
    show ((List.replicate k.toNat z.cps).foldl (· ++ ·) #[]).size ≤ sizeLine
    rw [rep_size, sizeLine_eq]
    have : k.toNat * z.length ≤ 1000 * 1000 := Nat.mul_le_mul (by omega) h4
    have e : z.cps.size = z.length := rfl
    simp only [List.size_toArray, List.length_nil, e]
    omega
def repS (z : Str) (k : Int) : Str := ⟨(List.replicate k.toNat z.cps).foldl (· ++ ·) #[]⟩
/-- * of any two things that it is told of -/
def mulD' : PyData → PyData → Option PyData
  | .tuple [], .int k => if -(2 ^ 63) ≤ k ∧ k < 2 ^ 63 then some (.tuple []) else none
  | .str z, .int k => if 2 ≤ k ∧ k ≤ 1000 ∧ 1 ≤ z.length ∧ z.length ≤ 1000 then some (.str (repS z k)) else none
  | x, y => mulD x y
theorem od_mul' : OpR X (binaryOp .Mult) (rop X.K mulD') := by
  intro pins s σ H x y v u Q I rx ry h
  obtain ⟨ρ, m, dx, dy, z, R, hx, hy, hz, k⟩ := h
  unfold mulD' at hz
  split at hz
  · split at hz
    · rename_i hk
      cases hz
      cases hy.int
      cases hx with
      | d hx =>
      cases hx with
      | tup h1 h2 =>
      cases h2
      exact op_rep0 pins s σ H _ _ v u Q I rx ry ⟨_, _, rfl, rfl, sqt_same hid_le h1, hk.1, hk.2, rop_k R k (.tup h1 .nil)⟩
    · cases hz
  · split at hz
    · rename_i hk
      cases hz
      cases hy.int
      cases hx.str
      exact op_repS pins s σ H _ _ v u Q I rx ry ⟨_, _, rfl, rfl, hk.1, hk.2.1, hk.2.2.1, hk.2.2.2, rop_k R k (.str _)⟩
    · cases hz
  · exact od_mul pins s σ H x y v u Q I rx ry ⟨ρ, m, dx, dy, z, R, hx, hy, hz, k⟩

/-! ### x[::-1] -/
def revD : PyData → Option PyData
  | .list xs => some (.list xs.reverse)
  | .tuple xs => some (.tuple xs.reverse)
  | _ => none
def eRev (f : ME) : ME := fun e m => match f e m with
  | some (x, m1) => match vw m1 x with
    | some d => match revD d with
      | some z => some (.d z, m1)
      | none => none
    | none => none
  | none => none
theorem q_rev {a : Expr} {f : ME} {k : Nat} {p1 p2 p3 pos : Pos} (ha : PE X a (rd X.K f)) : PE X (.Subscript a (.Slice none none (some (.UnaryOp .USub (.Constant (.int 1) k p1) p2)) p3) pos) (rd X.K (eRev f)) := by
  refine ⟨fun pins s σ H Q I h => ?_⟩
  obtain ⟨ρ, e, m, R, E, r, m', hr, kk⟩ := h
  unfold eRev at hr
  split at hr
  case h_2 => cases hr
  rename_i x m1 q1
  split at hr
  case h_2 => cases hr
  rename_i d q2
  split at hr
  case h_2 => cases hr
  rename_i z q3
  cases hr
  have hq : rd X.K f σ H fun v H1 => ∃ ρ1, VwR X.K (hid ρ1 m' H1) H1 v d ∧ RelM X.K H1 ρ1 m' ∧ ∀ v H', Gr ρ1 m' H1 ρ1 m' H' → RelM X.K H' ρ1 m' → Dt X.K (hid ρ1 m' H') v z → Q v H' :=
    rd_mk R E q1 fun v H1 ρ1 g1 R1 E1 r1 => ⟨ρ1, vw_of R1 r1 q2, R1, fun v H' g R' hv => kk v H' ρ1 (g1.trans g) R' hv⟩
  refine Subscript_ (thn (ha.run pins s σ H _ I hq) fun v s1 ⟨y, H1, I1, r1, ρ1, hx, R1, k1⟩ => ?_)
  have hst : PO X (some (.UnaryOp .USub (.Constant (.int 1) k p1) p2)) (tPart (tUn (rU fun i => .int (-i)) (tC (.int 1)))) := po_some (pe_un un_neg pe_int)
  refine wpAny_Slice (thn (po_none.run pins s1 σ H1 (fun o H2 => o = none ∧ H2 = H1) I1 ⟨rfl, rfl⟩) fun vl s2 ⟨l, H2, I2, pl, el, e2⟩ => ?_)
  subst el e2
  refine thn (po_none.run pins s2 σ H2 (fun o H3 => o = none ∧ H3 = H2) I2 ⟨rfl, rfl⟩) fun vu s3 ⟨u, H3, I3, pu, eu, e3⟩ => ?_
  subst eu e3
  refine thn (hst.run pins s3 σ H3 (fun o H4 => o = some (-1) ∧ H4 = H3) I3 ⟨1, rfl, -1, rfl, rfl, rfl⟩) fun vs s4 ⟨o, H4, I4, ps, eo, e4⟩ => ?_
  subst eo e4
  have I5 : Inv X pins σ H4 { s4 with heap := s4.heap.push { cls := .type "slice", data := .fields #[vl, vu, vs] } } := I4.kept (t' := s4.toks) fun b ob q => Heap.get?_push_of_some _ q
  cases pl
  cases pu
  unfold revD at q3
  split at q3
  · cases q3
    obtain ⟨b, xs, rfl, x1, x2⟩ := hx.list hid_le
    cases r1
    obtain ⟨its, rr, ht, hz⟩ := I5.list (.inl (.inl x1) : SqL X.K H4 b xs)
    have hlen := rr.length
    refine tail_any (ops := [.ref b, .ref s4.heap.objs.size]) ht.isList.typeIs (PySem.slot_list_getitem.lookup) ?_ (by with_unfolding_all rfl)
    refine wpAny_getItem_list_slice ht.isList (Heap.IsSliceOf.new _ .none .none vs) .none .none ps (by decide) ?_ (by rw [List.size_toArray]; omega)
    rw [PySem.W.krv_pick]
    refine ⟨.ref _, _, I5.laid (t' := s4.toks) (o := .lst xs.reverse) (fun b ob q => Heap.get?_push_of_some _ q) (Nat.le_refl _) ?_, rfl, rop_new R1 k1 x2.rev (I5.hok.fresh (Nat.le_refl _))⟩
    exact ⟨by rw [List.length_reverse]; exact hz, _, 0, rr.reverse, Heap.get?_push_size _ rfl⟩
  · cases q3
    obtain ⟨b, xs, rfl, x1, x2⟩ := hx.tuple hid_le
    cases r1
    obtain ⟨its, rr, ht, hz⟩ := I5.tuple x1
    have hlen := rr.length
    refine tail_any (ops := [.ref b, .ref s4.heap.objs.size]) ht.typeIs (PyProof.Rows.slot_tuple_getitem.lookup) ?_ (by with_unfolding_all rfl)
    refine DLr.getItem_rev ht (Heap.IsSliceOf.new _ .none .none vs) ps ?_ (by rw [List.size_toArray]; omega)
    refine ⟨.ref _, _, I5.laid (t' := s4.toks) (o := .tup xs.reverse) (fun b ob q => Heap.get?_push_of_some _ q) (Nat.le_refl _) ?_, rfl, rop_newT R1 k1 x2.rev (I5.hok.fresh (Nat.le_refl _))⟩
    exact ⟨by rw [List.length_reverse]; exact hz, _, rr.reverse, IsTup.new _ _⟩
  · cases q3
end
end DL
set_option Elab.async false
set_option linter.all false
set_option maxRecDepth 100000
set_option maxHeartbeats 4000000
namespace DL
open PySem PySem.Spec PyProof.Rows L2

/-! ### defs by name -/
structure Has (P : Program) (w : World) (K : Frg) (mg : Str → Option Value) (base : Heap) (x : Str) (k : Nat) (ps : List Str) (F : MF) : Prop where
  ex : ∃ (a : Addr) (fd : FuncData), FnG P w K mg base k a fd ps F ∧ mg x = some (.ref a) ∧ PySem.W.keepIn K (.ref a) = true ∧ Binds K fd ps []
theorem Has.up {P : Program} {w : World} {K : Frg} {mg : Str → Option Value} {base : Heap} {x : Str} {j k : Nat} {ps : List Str} {F : MF} (h : Has P w K mg base x j ps F) (l : j ≤ k) : Has P w K mg base x k ps F := by
  obtain ⟨a, fd, h1, h2⟩ := h.ex
  exact ⟨a, fd, h1.up l, h2⟩
theorem q_callH {X : Cx} {k : Nat} {ps : List Str} {F : MF} {x : Str} {p pos : Pos} {a : Expr} {es : List Expr} {fa : MA} (h : Has X.prog X.w X.K X.mg X.base x k ps F) (gd : X.A.guards = some []) (rm : Room k X.A) (gx : Gl X x)
    (ha : PA X (a :: es) (ra X.K fa)) (hdb : (x == ("__debug__" : Str)) = false := by decide) (he : starEach (a :: es) X.env = (false, eval a X.env) :: starEach es X.env := by rfl) (hpl : (backTo pos (starEach es X.env)).any (·.1) = false := by rfl) :
    PE X (.Call (.Name x p) (a :: es) [] pos) (rd X.K (eCall F fa)) := by
  obtain ⟨b, fd, h1, h2, h3, h4⟩ := h.ex
  exact q_call h1 gd rm gx h2 h3 h4 ha hdb he hpl
theorem fng_none {P : Program} {w : World} {K : Frg} {mg : Str → Option Value} {base : Heap} {k : Nat} {f : Addr} {fd : FuncData} {ps : List Str} : FnG P w K mg base k f fd ps (fun _ _ => none) := by
  refine ⟨fun _ _ _ h => (by cases h), fun A o s H args us vs Q g rm e0 bd r h => ?_⟩
  obtain ⟨ρ, m, rs, _, _, r', m', hF, _⟩ := h
  cases hF
theorem room64 {A : Around} {k : Nat} (h : Room k A) : A.units + 64 < cLine := by have := h.un; omega
theorem room65 {A : Around} {k : Nat} (h : Room k A) : A.units + 65 < cLine := by have := h.un; omega
theorem room1 {A : Around} {k : Nat} (h : Room k A) : A.units + 1 < cLine := by have := h.un; omega

theorem fng2 {P : Program} {w : World} {K : Frg} {mg : Str → Option Value} {base : Heap} {x qual : Str} {st : Stmt} {f : Addr} {fd : FuncData} {N ps : List Str} {k n m : Nat} {b : MS} (F : Fun K x qual st f fd) (S : FnScope N ps (defScope st)) (hn : ps.length = n) (hm : N.length = m) (hle : n ≤ m)
    (body : ∀ (cdv : Value) (A : Around) (outer : List Env) (s : Shared) (H : Hp), A.guards = some [] → Room k (A.deeper (envOfC qual (defScope st) s.heap.objs.size f cdv)) →
      PSs (bodyCx P w K mg base N qual st f cdv A outer s H) (defBody st) (rs K b)) : FnG P w K mg base (k + 1) f fd ps (fnM n m b) := by
  subst hn hm
  exact fng F S hle body
/-! ### -n, constants of the module, pass -/
def eNeg (f : ME) : ME := fun e m => match f e m with
  | some (.d (.int i), m1) => some (.d (.int (-i)), m1)
  | _ => none
section
variable {X : Cx} {pos p : Pos} {a : Expr} {f : ME} {x : Str}
theorem q_neg (ha : PE X a (rd X.K f)) : PE X (.UnaryOp .USub a pos) (rd X.K (eNeg f)) := PE.imp (pe_un un_neg ha) fun σ H Q ⟨ρ, e, m, R, E, r, m', hr, k⟩ => by
  unfold eNeg at hr
  split at hr
  · rename_i i m1 h
    cases hr
    refine rd_mk R E h fun v H' ρ' g R' E' q => ?_
    cases q
    exact ⟨i, rfl, k _ H' ρ' g R' (Dt.int _)⟩
  · cases hr
theorem q_gstr {z : Str} (hg : Gl X x) (hm : ∃ t, X.mg x = some (.str z t)) (hdb : (x == ("__debug__" : Str)) = false := by decide) : PE X (.Name x pos) (rd X.K (eC (.str z))) := by
  obtain ⟨t, h⟩ := hm
  exact q_glob hg h (v := .str z) ⟨t, rfl⟩ (fun _ => .str z) hdb
theorem q_gint {z : Int} (hg : Gl X x) (hm : ∃ t, X.mg x = some (.int z t)) (hdb : (x == ("__debug__" : Str)) = false := by decide) : PE X (.Name x pos) (rd X.K (eC (.int z))) := by
  obtain ⟨t, h⟩ := hm
  exact q_glob hg h (v := .int z) ⟨t, rfl⟩ (fun _ => .int z) hdb
theorem q_pass : PS X (.Pass pos) (rs X.K sNil) := PS.imp ps_pass fun D σ H ⟨ρ, e, m, R, E, o, m', hr, k⟩ => by
  cases hr
  exact k σ H ρ .refl R E
end
/-- a, b = e, f -/
def sPar (i j : Nat) (fa : MA) : MS := fun e m => match fa e m with
  | some ([x, y], m1) => some (.nx ((e.set i (some x)).set j (some y)), m1)
  | _ => none
def sPar3 (i j l : Nat) (fa : MA) : MS := fun e m => match fa e m with
  | some ([x, y, z], m1) => some (.nx (((e.set i (some x)).set j (some y)).set l (some z)), m1)
  | _ => none
theorem par_mk {K : Frg} {i j : Nat} {fa : MA} {D : Ends} {σ : L2.St} {H : Hp} (h : rs K (sPar i j fa) D σ H) : ra K fa σ H fun vs H1 => ∃ v w, vs = [v, w] ∧ D.nx ((σ.set i (some v)).set j (some w)) H1 := by
  obtain ⟨ρ, e, m, R, E, o, m', hr, k⟩ := h
  unfold sPar at hr
  split at hr
  · rename_i x y m1 h1
    cases hr
    refine ra_mk R E h1 fun vs H1 ρ1 g1 R1 E1 q => ?_
    cases q with
    | cons q1 q2 =>
      cases q2 with
      | cons q2 q3 =>
        cases q3
        exact ⟨_, _, rfl, k _ H1 ρ1 g1 R1 ((E1.set i q1).set j q2)⟩
  · cases hr
theorem q_par {X : Cx} {i j : Nat} {x y : Str} {a b : Expr} {fa : MA} {px py pt pos : Pos} {kt k2 pt2} (hc : X.calm = true) (hN : X.N.Nodup) (hi : X.N[i]? = some x) (hj : X.N[j]? = some y) (hij : i ≠ j) (hx : X.env.scope.names.lookup x = some .local) (hy : X.env.scope.names.lookup y = some .local)
    (ha : PA X [a, b] (ra X.K fa)) (hw : swappedStores [.Tuple [.Name x px, .Name y py] kt pt] (.Tuple [a, b] k2 pt2) X.env = pure (some [x, y]) := by rfl) (hs : swapsWithSole [.Tuple [.Name x px, .Name y py] kt pt] (.Tuple [a, b] k2 pt2) pos.line X.env = pure false := by rfl) :
    PS X (.Assign [.Tuple [.Name x px, .Name y py] kt pt] (.Tuple [a, b] k2 pt2) pos) (rs X.K (sPar i j fa)) := PS.imp (ps_par hc hN hi hj hij hx hy ha hw hs) fun D σ H h => par_mk h
end DL
set_option Elab.async false
set_option linter.all false
set_option maxRecDepth 10000
set_option maxHeartbeats 2000000
/-! What the mirrors come to: facts for reckoning with them. -/
namespace DL
open PySem PySem.Spec PyProof.Rows L2
def ty_int : PyData → Bool
  | .int _ => true
  | .bool _ => true
  | _ => false
theorem isT_int : ∀ x : PyData, isT "int" x = some (ty_int x)
  | .none => (by decide +kernel : kitB "NoneType" "int" = some false)
  | .bool _ => (by decide +kernel : kitB "bool" "int" = some true)
  | .int _ => (by decide +kernel : kitB "int" "int" = some true)
  | .str _ => (by decide +kernel : kitB "str" "int" = some false)
  | .list _ => (by decide +kernel : kitB "list" "int" = some false)
  | .tuple _ => (by decide +kernel : kitB "tuple" "int" = some false)
  | .dict _ => (by decide +kernel : kitB "dict" "int" = some false)
def ty_bool : PyData → Bool
  | .bool _ => true
  | _ => false
theorem isT_bool : ∀ x : PyData, isT "bool" x = some (ty_bool x)
  | .none => (by decide +kernel : kitB "NoneType" "bool" = some false)
  | .bool _ => (by decide +kernel : kitB "bool" "bool" = some true)
  | .int _ => (by decide +kernel : kitB "int" "bool" = some false)
  | .str _ => (by decide +kernel : kitB "str" "bool" = some false)
  | .list _ => (by decide +kernel : kitB "list" "bool" = some false)
  | .tuple _ => (by decide +kernel : kitB "tuple" "bool" = some false)
  | .dict _ => (by decide +kernel : kitB "dict" "bool" = some false)
def ty_str : PyData → Bool
  | .str _ => true
  | _ => false
theorem isT_str : ∀ x : PyData, isT "str" x = some (ty_str x)
  | .none => (by decide +kernel : kitB "NoneType" "str" = some false)
  | .bool _ => (by decide +kernel : kitB "bool" "str" = some false)
  | .int _ => (by decide +kernel : kitB "int" "str" = some false)
  | .str _ => (by decide +kernel : kitB "str" "str" = some true)
  | .list _ => (by decide +kernel : kitB "list" "str" = some false)
  | .tuple _ => (by decide +kernel : kitB "tuple" "str" = some false)
  | .dict _ => (by decide +kernel : kitB "dict" "str" = some false)
def ty_list : PyData → Bool
  | .list _ => true
  | _ => false
theorem isT_list : ∀ x : PyData, isT "list" x = some (ty_list x)
  | .none => (by decide +kernel : kitB "NoneType" "list" = some false)
  | .bool _ => (by decide +kernel : kitB "bool" "list" = some false)
  | .int _ => (by decide +kernel : kitB "int" "list" = some false)
  | .str _ => (by decide +kernel : kitB "str" "list" = some false)
  | .list _ => (by decide +kernel : kitB "list" "list" = some true)
  | .tuple _ => (by decide +kernel : kitB "tuple" "list" = some false)
  | .dict _ => (by decide +kernel : kitB "dict" "list" = some false)
def ty_tuple : PyData → Bool
  | .tuple _ => true
  | _ => false
theorem isT_tuple : ∀ x : PyData, isT "tuple" x = some (ty_tuple x)
  | .none => (by decide +kernel : kitB "NoneType" "tuple" = some false)
  | .bool _ => (by decide +kernel : kitB "bool" "tuple" = some false)
  | .int _ => (by decide +kernel : kitB "int" "tuple" = some false)
  | .str _ => (by decide +kernel : kitB "str" "tuple" = some false)
  | .list _ => (by decide +kernel : kitB "list" "tuple" = some false)
  | .tuple _ => (by decide +kernel : kitB "tuple" "tuple" = some true)
  | .dict _ => (by decide +kernel : kitB "dict" "tuple" = some false)
def ty_dict : PyData → Bool
  | .dict _ => true
  | _ => false
theorem isT_dict : ∀ x : PyData, isT "dict" x = some (ty_dict x)
  | .none => (by decide +kernel : kitB "NoneType" "dict" = some false)
  | .bool _ => (by decide +kernel : kitB "bool" "dict" = some false)
  | .int _ => (by decide +kernel : kitB "int" "dict" = some false)
  | .str _ => (by decide +kernel : kitB "str" "dict" = some false)
  | .list _ => (by decide +kernel : kitB "list" "dict" = some false)
  | .tuple _ => (by decide +kernel : kitB "tuple" "dict" = some false)
  | .dict _ => (by decide +kernel : kitB "dict" "dict" = some true)
/-! ### comprehensions -/
/-- items that change nothing but themselves -/
theorem lc_pure {g : MG} {c : MB} {f : ME} {e0 : Env'} {n : Nat} {A : Mem} (hA : A.length = n) (φ : EV → PyData) (p : EV → Bool) : ∀ (xs : List EV) (acc : List PyData), acc.length + xs.length ≤ 16777216 →
    (∀ x ∈ xs, ∀ acc : List PyData, ∃ e1, g x e0 (A ++ [.lst acc]) = some e1 ∧ c e1 (A ++ [.lst acc]) = some (p x, A ++ [.lst acc]) ∧ (p x = true → f e1 (A ++ [.lst acc]) = some (.d (φ x), A ++ [.lst acc]))) →
    lcL g c f n noC e0 xs (A ++ [.lst acc]) = some (A ++ [.lst (acc ++ (xs.filter p).map φ)])
  | [], acc, _, _ => by simp [lcL, noC]
  | x :: xs, acc, hl, h => by
    obtain ⟨e1, h1, h2, h3⟩ := h x List.mem_cons_self acc
    have hz : (16777216 : Nat) = sizeLine := by rw [sizeLine_eq]
    rw [List.length_cons] at hl
    have hC : noC (A ++ [MO.lst acc]) := trivial
    simp only [lcL, hC, if_true, h1, h2]
    cases hp : p x with
    | false =>
      have ih := lc_pure hA φ p xs acc (by omega) fun y hy => h y (List.mem_cons_of_mem _ hy)
      rw [List.filter_cons, hp]
      simpa using ih
    | true =>
      have ih := lc_pure hA φ p xs (acc ++ [φ x]) (by rw [List.length_append]; simp; omega) fun y hy => h y (List.mem_cons_of_mem _ hy)
      have e2 : (A ++ [MO.lst acc])[n]? = some (.lst acc) := by rw [← hA]; simp
      have e3 : (A ++ [MO.lst acc]).set n (.lst (acc ++ [φ x])) = A ++ [.lst (acc ++ [φ x])] := by rw [← hA]; simp
      have e4 : acc.length < sizeLine := by omega
      simp only [h3 hp, e2, e4, if_true, e3]
      rw [ih, List.filter_cons, hp]
      simp
theorem frz_lc {it : MIt} {g : MG} {c : MB} {f : ME} {vs : List Nat} {e : Env'} {m A : Mem} {xs : List EV} {C : Mem → Prop} {acc : List PyData} (h1 : it e m = some (xs, C, A)) (hA : A.length = m.length) {A' : Mem} (hA' : A'.length = m.length)
    (h2 : lcL g c f m.length C (wipeE e vs) xs (A ++ [.lst []]) = some (A' ++ [.lst acc])) : eFrz (eLc it g c f vs) e m = some (.d (.list acc), A') := by
  unfold eFrz eLc
  rw [h1]
  dsimp only
  rw [hA, h2]
  dsimp only
  have e1 : (A' ++ [MO.lst acc])[m.length]? = some (.lst acc) := by rw [← hA']; simp
  have e2 : (A' ++ [MO.lst acc]).take m.length = A' := by rw [← hA']; simp
  simp only [vw, e1, List.length_append, hA', List.length_singleton, and_self, if_true, e2]
/-- the same, the memory as it was -/
theorem frz_pure {it : MIt} {g : MG} {c : MB} {f : ME} {vs : List Nat} {e : Env'} {m : Mem} {xs : List EV} (φ : EV → PyData) (p : EV → Bool) (h1 : it e m = some (xs, noC, m)) (hl : xs.length ≤ 16777216)
    (h : ∀ x ∈ xs, ∀ acc : List PyData, ∃ e1, g x (wipeE e vs) (m ++ [.lst acc]) = some e1 ∧ c e1 (m ++ [.lst acc]) = some (p x, m ++ [.lst acc]) ∧ (p x = true → f e1 (m ++ [.lst acc]) = some (.d (φ x), m ++ [.lst acc]))) :
    eFrz (eLc it g c f vs) e m = some (.d (.list ((xs.filter p).map φ)), m) := by
  refine frz_lc h1 rfl rfl ?_
  have := lc_pure (A := m) (n := m.length) rfl φ p xs [] (by simpa using hl) h
  simpa using this
end DL
set_option Elab.async false
set_option linter.all false
set_option maxRecDepth 100000
set_option maxHeartbeats 4000000
/-! classes of the text whose instances bear data -/
namespace DL
open PySem PySem.Spec PyProof.Rows L2

/-- a class of the text, by its name -/
structure ClsAt (K : Frg) (c : Str) (C : Addr) : Prop where
  at_ : PySem.W.nsIn K mainGlobals c = some (some (.ref C))
  cl : Cls K C
theorem ClsAt.uniq {K : Frg} {c : Str} {C D : Addr} (h : ClsAt K c C) (g : PySem.W.nsIn K mainGlobals c = some (some (.ref D))) : D = C := by
  have := h.at_.symm.trans g
  cases this
  rfl
def fdGet (f : Str) : List (Str × PyData) → Option PyData
  | [] => none
  | (g, x) :: r => if f = g then some x else fdGet f r
def fdPut (f : Str) (y : PyData) : List (Str × PyData) → List (Str × PyData)
  | [] => [(f, y)]
  | (g, x) :: r => if g = f then (g, y) :: r else (g, x) :: fdPut f y r
theorem lookup_cons {β : Type} (f g : Str) (x : β) (r : List (Str × β)) : List.lookup f ((g, x) :: r) = if f = g then some x else List.lookup f r := by
  by_cases h : f = g
  · subst h; simp [List.lookup]
  · have e : (f == g) = false := by simpa using h
    simp [List.lookup, e, h]
section
variable {K : Frg} {G : Hp}
theorem fd_get {f : Str} {d : PyData} : ∀ {ys : List (Str × V)} {fs : List (Str × PyData)}, FdR K G ys fs → fdGet f fs = some d → ∃ v, ys.lookup f = some v ∧ Dt K G v d
  | _, _, .nil, e => by cases e
  | (g, v) :: ys, (g', x) :: fs, .cons h q, e => by
    obtain ⟨h1, h2⟩ := h
    have h1' : g = g' := h1
    subst h1'
    rw [lookup_cons]
    unfold fdGet at e
    by_cases hf : f = g
    · rw [if_pos hf] at e ⊢; cases e; exact ⟨_, rfl, h2⟩
    · rw [if_neg hf] at e ⊢; exact fd_get q e
theorem fd_none {f : Str} : ∀ {ys : List (Str × V)} {fs : List (Str × PyData)}, FdR K G ys fs → fdGet f fs = none → ys.lookup f = none
  | _, _, .nil, e => rfl
  | (g, v) :: ys, (g', x) :: fs, .cons h q, e => by
    obtain ⟨h1, h2⟩ := h
    have h1' : g = g' := h1
    subst h1'
    rw [lookup_cons]
    unfold fdGet at e
    by_cases hf : f = g
    · rw [if_pos hf] at e; cases e
    · rw [if_neg hf] at e ⊢; exact fd_none q e
theorem fd_len : ∀ {ys : List (Str × V)} {fs : List (Str × PyData)}, FdR K G ys fs → ys.length = fs.length
  | _, _, .nil => rfl
  | _ :: _, _ :: _, .cons _ q => by rw [List.length_cons, List.length_cons, fd_len q]
theorem fd_put {f : Str} {y : V} {d : PyData} (hy : Dt K G y d) : ∀ {ys : List (Str × V)} {fs : List (Str × PyData)}, FdR K G ys fs → FdR K G (putF f y ys) (fdPut f d fs)
  | _, _, .nil => .cons ⟨rfl, hy⟩ .nil
  | (g, v) :: ys, (g', x) :: fs, .cons h q => by
    obtain ⟨h1, h2⟩ := h
    have h1' : g = g' := h1
    subst h1'
    show FdR K G (if g = f then (g, y) :: ys else (g, v) :: putF f y ys) (if g = f then (g, d) :: fs else (g, x) :: fdPut f d fs)
    by_cases hf : g = f
    · rw [if_pos hf, if_pos hf]; exact .cons ⟨rfl, hy⟩ q
    · rw [if_neg hf, if_neg hf]; exact .cons ⟨rfl, h2⟩ (fd_put hy q)
end
/-- the attributes of an instance of the class c -/
def insOf (c : Str) (m : Mem) : EV → Option (List (Str × PyData))
  | .o c' fs => if c' = c then some fs else none
  | .l i => match m[i]? with
    | some (.ins c' fs) => if c' = c then some fs else none
    | _ => none
  | _ => none
theorem ins_v {K : Frg} {ρ : List Addr} {m : Mem} {H : Hp} {c : Str} {C : Addr} {v : V} {x : EV} {fs : List (Str × PyData)} (A : ClsAt K c C) (R : RelM K H ρ m) (h : EvR K (hid ρ m H) ρ v x) (e : insOf c m x = some fs) :
    ∃ a dx ys, v = .ref a ∧ H a = some (.ins C dx ys) ∧ FdR K (hid ρ m H) ys fs := by
  cases x with
  | d y => cases e
  | f ds => cases e
  | t xs => cases e
  | o c' gs =>
    simp only [insOf] at e
    split at e
    · rename_i hc
      cases e
      subst hc
      obtain ⟨a, D, dx, ys, h1, h2, h3, h4⟩ := h
      cases A.uniq h2
      exact ⟨a, dx, ys, h1, (hid_some h3).1, h4⟩
    · cases e
  | l i =>
    simp only [insOf] at e
    split at e
    · rename_i c' gs hm
      split at e
      · rename_i hc
        cases e
        subst hc
        obtain ⟨a, h1, h2⟩ := h
        obtain ⟨D, dx, ys, h3, h4, h5⟩ := R.ok i a _ h1 hm
        cases A.uniq h3
        exact ⟨a, dx, ys, h2, h4, h5⟩
      · cases e
    · cases e
def eFld (c f : Str) (fa : ME) : ME := fun e m => match fa e m with
  | some (x, m1) => match insOf c m1 x with
    | some fs => match fdGet f fs with
      | some d => some (.d d, m1)
      | none => none
    | none => none
  | none => none
def sFldP (c f : Str) (fv fo : ME) : MS := fun e m => match fv e m with
  | some (.d y, m1) => match fo e m1 with
    | some (.l i, m2) => match m2[i]? with
      | some (.ins c' fs) => if c' = c ∧ fs.length < 1000 then some (.nx e, m2.set i (.ins c (fdPut f y fs))) else none
      | _ => none
    | _ => none
  | _ => none
/-- C(..): a new instance, made by its __init__ -/
def eMake (c : Str) (F : MF) (fa : MA) : ME := fun e m => match fa e m with
  | some (rs, m1) => match F (.l m1.length :: rs) (m1 ++ [.ins c []]) with
    | some (.d .none, m2) => some (.l m1.length, m2)
    | _ => none
  | none => none
/-- a new instance that never changes again -/
def eFrzO (f : ME) : ME := fun e m => match f e m with
  | some (.o c fs, m1) => some (.o c fs, m1)
  | some (.l i, m1) => if i = m.length ∧ m1.length = m.length + 1 then
      (match m1[i]? with
      | some (.ins c fs) => some (.o c fs, m1.take m.length)
      | _ => none) else none
  | _ => none
def eMeth (c nm : Str) (F : MF) (fo : ME) (fa : MA) : ME := fun e m => match fo e m with
  | some (x, m1) => match insOf c m1 x with
    | some fs => if fdGet nm fs = none then (match fa e m1 with
      | some (rs, m2) => F (x :: rs) m2
      | none => none) else none
    | none => none
  | none => none
section
variable {X : Cx} {a o val : Expr} {es : List Expr} {fa fo fv : ME} {ga : MA} {c f nm x : Str} {C : Addr} {pos p pos' apos : Pos}
theorem q_fld (A : ClsAt X.K c C) (n : NoAttr X.K C f) (ha : PE X a (rd X.K fa)) (hb : attributeBase a f X.env (eval a X.env) = eval a X.env := by rfl) : PE X (.Attribute a f pos) (rd X.K (eFld c f fa)) :=
  PE.imp (pe_fld ha hb) fun σ H Q ⟨ρ, e, m, R, E, r, m', hr, k⟩ => by
    unfold eFld at hr
    split at hr
    case h_2 => cases hr
    rename_i x m1 h1
    split at hr
    case h_2 => cases hr
    rename_i fs h2
    split at hr
    case h_2 => cases hr
    rename_i d h3
    cases hr
    refine rd_mk R E h1 fun v H1 ρ1 g1 R1 E1 r1 => ?_
    obtain ⟨b, dx, ys, e1, e2, e3⟩ := ins_v A R1 r1 h2
    obtain ⟨w, w1, w2⟩ := fd_get e3 h3
    exact ⟨b, C, dx, ys, w, e1, e2, A.cl, n, w1, k w H1 ρ1 g1 R1 w2⟩
theorem q_fldput (A : ClsAt X.K c C) (n : NoAttr X.K C f) (ho : PE X o (rd X.K fo)) (hv : PE X val (rd X.K fv)) (hs : swapsWith val (some (.Attribute o f pos')) pos.line X.env = pure false := by rfl) :
    PS X (.Assign [.Attribute o f pos'] val pos) (rs X.K (sFldP c f fv fo)) := PS.imp (ps_fld ho hv hs) fun D σ H ⟨ρ, e, m, R, E, z, m', hr, k⟩ => by
  unfold sFldP at hr
  split at hr
  case h_2 => cases hr
  rename_i y m1 h1
  split at hr
  case h_2 => cases hr
  rename_i i m2 h2
  split at hr
  case h_2 => cases hr
  rename_i c' fs h3
  split at hr
  case isFalse => cases hr
  rename_i hc
  obtain ⟨rfl, hl⟩ := hc
  cases hr
  refine rd_mk R E h1 fun v H1 ρ1 g1 R1 E1 r1 => ?_
  refine rd_mk R1 E1 h2 fun u H2 ρ2 g2 R2 E2 r2 => ?_
  obtain ⟨b, b1, b2⟩ := r2
  obtain ⟨D', dx, ys, d1, d2, d3⟩ := R2.ok i b _ b1 h3
  cases A.uniq d1
  have r1' : Dt X.K (hid ρ2 m2 H2) v y := Dt.mono g2.same _ r1
  obtain ⟨R3, g3⟩ := R2.write (o' := .ins c' (fdPut f y fs)) (u := .ins C dx (putF f v ys)) b1 h3 (fun z => nomatch z) (fun z => nomatch z) ⟨C, dx, _, d1, upd_same, fd_put r1' d3⟩
  exact ⟨b, C, dx, ys, b2, d2, A.cl, n, by rw [fd_len d3]; exact hl, k _ _ ρ2 ((g1.trans g2).trans g3) R3 (E2.gr g3)⟩
end
end DL
set_option Elab.async false
set_option linter.all false
set_option maxRecDepth 100000
set_option maxHeartbeats 4000000
/-! making instances, calling their methods, instances that stand -/
namespace DL
open PySem PySem.Spec PyProof.Rows L2
/-- a method of a class of the text, by what its def promises -/
structure HasM (P : Program) (w : World) (K : Frg) (mg : Str → Option Value) (base : Heap) (C : Addr) (nm : Str) (k : Nat) (ps : List Str) (F : MF) : Prop where
  ex : ∃ (g : Addr) (fd : FuncData), FnG P w K mg base k g fd ps F ∧ Meth K C nm g ∧ Binds K fd ps []
theorem HasM.up {P : Program} {w : World} {K : Frg} {mg : Str → Option Value} {base : Heap} {C : Addr} {nm : Str} {j k : Nat} {ps : List Str} {F : MF} (h : HasM P w K mg base C nm j ps F) (l : j ≤ k) : HasM P w K mg base C nm k ps F := by
  obtain ⟨g, fd, G, M, B⟩ := h.ex
  exact ⟨g, fd, G.up l, M, B⟩
/-- a class of the text that is made by its __init__ -/
structure HasC (P : Program) (w : World) (K : Frg) (mg : Str → Option Value) (base : Heap) (c : Str) (C : Addr) (k : Nat) (ps : List Str) (F : MF) : Prop where
  ex : ∃ (g : Addr) (fd : FuncData), FnG P w K mg base k g fd ps F ∧ Mk K C g ∧ Binds K fd ps []
  mg : mg c = some (.ref C)
theorem HasC.up {P : Program} {w : World} {K : Frg} {mg : Str → Option Value} {base : Heap} {c : Str} {C : Addr} {j k : Nat} {ps : List Str} {F : MF} (h : HasC P w K mg base c C j ps F) (l : j ≤ k) : HasC P w K mg base c C k ps F := by
  obtain ⟨g, fd, G, M, B⟩ := h.ex
  exact ⟨⟨g, fd, G.up l, M, B⟩, h.mg⟩
section
variable {X : Cx} {a o val : Expr} {es : List Expr} {fa fo fv : ME} {ga : MA} {c f nm x : Str} {C : Addr} {pos p pos' apos : Pos} {k : Nat} {ps : List Str} {F : MF}
theorem q_meth {pl : Sem Bool} (A : ClsAt X.K c C) (Hm : HasM X.prog X.w X.K X.mg X.base C nm k ps F) (gd : X.A.guards = some []) (rm : Room k X.A) (ho : PE X o (rd X.K fo)) (ha : PA X (a :: es) (ra X.K ga))
    (h1 : starEach (a :: es) X.env = (false, eval a X.env) :: starEach es X.env := by rfl) (h2 : (backTo pos (starEach es X.env)).any (·.1) = false := by rfl)
    (h3 : eval (.Call (.Attribute o nm apos) (a :: es) [] pos) X.env = (do
      let ov ← eval o X.env
      standAt apos.atName
      let (f, first) ← holding [ov] (getMethod ov nm pl)
      callWith pos f first (backTo pos (starEach (a :: es) X.env)) (backToKw pos (keywordEach [] X.env))) := by rfl) :
    PE X (.Call (.Attribute o nm apos) (a :: es) [] pos) (rd X.K (eMeth c nm F fo ga)) := by
  obtain ⟨g, fd, G, M, B⟩ := Hm.ex
  refine ⟨fun pins s σ H Q I h => ?_⟩
  obtain ⟨ρ, e, m, R, E, r, m', hr, q⟩ := h
  unfold eMeth at hr
  split at hr
  case h_2 => cases hr
  rename_i x m1 q1
  split at hr
  case h_2 => cases hr
  rename_i fs q2
  split at hr
  case isFalse => cases hr
  rename_i q3
  split at hr
  case h_2 => cases hr
  rename_i rs m2 q4
  refine PySem.W.methodCall_KW (pl := pl) (thn (ho.run pins s σ H (fun v H1 => ∃ ρ1, Gr ρ m H ρ1 m1 H1 ∧ RelM X.K H1 ρ1 m1 ∧ EnvR X.K (hid ρ1 m1 H1) ρ1 σ e ∧ EvR X.K (hid ρ1 m1 H1) ρ1 v x) I
    (rd_mk R E q1 fun v H1 ρ1 g1 R1 E1 r1 => ⟨ρ1, g1, R1, E1, r1⟩)) fun u s1 ⟨v, H1, I1, rv, ρ1, g1, R1, E1, r1⟩ => ?_) h3
  obtain ⟨b, dx, ys, e1, e2, e3⟩ := ins_v A R1 r1 q2
  subst e1
  obtain rfl : u = Value.ref b := rv
  refine getmeth_ok I1 e2 A.cl M (fd_none e3 q3) ?_
  have hq : ra X.K ga σ H1 fun vs H2 => spD X.K F (.ref b :: vs) H2 Q E0 :=
    ra_mk R1 E1 q4 fun vs H2 ρ2 g2 R2 E2 r2 => ⟨ρ2, m2, x :: rs, R2, .cons (r1.gr g2) r2, r, m', hr, fun v H' ρ' g3 R3 r3 => q v H' ρ' ((g1.trans g2).trans g3) R3 r3⟩
  refine PySem.W.callWith_K (first := [.ref b]) (h₀ := X.base) I.ok.mod.kin M.kp (thn (ha.run pos pins s1 σ H1 _ I1 hq) fun us s2 ⟨vs, H2, I2, rr, z⟩ => ⟨I2.kIn, ?_⟩) h1 h2
  exact run_g (us := .ref b :: us) (vs := .ref b :: vs) G gd rm B I2 (.cons rfl rr) z
theorem q_meth0 {pl : Sem Bool} (A : ClsAt X.K c C) (Hm : HasM X.prog X.w X.K X.mg X.base C nm k ps F) (gd : X.A.guards = some []) (rm : Room k X.A) (ho : PE X o (rd X.K fo))
    (h3 : eval (.Call (.Attribute o nm apos) [] [] pos) X.env = (do
      let ov ← eval o X.env
      standAt apos.atName
      let (f, first) ← holding [ov] (getMethod ov nm pl)
      callWith pos f first (backTo pos (starEach [] X.env)) (backToKw pos (keywordEach [] X.env))) := by rfl) :
    PE X (.Call (.Attribute o nm apos) [] [] pos) (rd X.K (eMeth c nm F fo aNil)) := by
  obtain ⟨g, fd, G, M, B⟩ := Hm.ex
  refine ⟨fun pins s σ H Q I h => ?_⟩
  obtain ⟨ρ, e, m, R, E, r, m', hr, q⟩ := h
  unfold eMeth at hr
  split at hr
  case h_2 => cases hr
  rename_i x m1 q1
  split at hr
  case h_2 => cases hr
  rename_i fs q2
  split at hr
  case isFalse => cases hr
  rename_i q3
  unfold aNil at hr
  dsimp only at hr
  refine PySem.W.methodCall_KW (pl := pl) (thn (ho.run pins s σ H (fun v H1 => ∃ ρ1, Gr ρ m H ρ1 m1 H1 ∧ RelM X.K H1 ρ1 m1 ∧ EnvR X.K (hid ρ1 m1 H1) ρ1 σ e ∧ EvR X.K (hid ρ1 m1 H1) ρ1 v x) I
    (rd_mk R E q1 fun v H1 ρ1 g1 R1 E1 r1 => ⟨ρ1, g1, R1, E1, r1⟩)) fun u s1 ⟨v, H1, I1, rv, ρ1, g1, R1, E1, r1⟩ => ?_) h3
  obtain ⟨b, dx, ys, e1, e2, e3⟩ := ins_v A R1 r1 q2
  subst e1
  obtain rfl : u = Value.ref b := rv
  refine getmeth_ok I1 e2 A.cl M (fd_none e3 q3) ?_
  exact PySem.W.callWith_K0 (first := [.ref b]) I1.kIn M.kp (run_g (us := [.ref b]) (vs := [.ref b]) G gd rm B I1 (.cons rfl .nil)
    ⟨ρ1, m1, [x], R1, .cons r1 .nil, r, m', hr, fun v H' ρ' g3 R3 r3 => q v H' ρ' (g1.trans g3) R3 r3⟩)

/-- the new instance at its place of the memory -/
theorem run_mk {pins : List (Addr × Obj)} {σ : L2.St} {H : Hp} {s : Shared} {Q : VK} {us : List Value} {vs : List V} {g : Addr} {fd : FuncData} {ρ : List Addr} {m m2 : Mem} {rs : List EV} (A : ClsAt X.K c C) (M : Mk X.K C g) (G : FnG X.prog X.w X.K X.mg X.base k g fd ps F)
    (B : Binds X.K fd ps []) (gd : X.A.guards = some []) (rm : Room (k + 1) X.A) (I : Inv X pins σ H s) (r : Vals vs us) (R : RelM X.K H ρ m) (ea : EvA X.K (hid ρ m H) ρ vs rs) (hF : F (.l m.length :: rs) (m ++ [.ins c []]) = some (.d .none, m2))
    (q : ∀ v H' ρ', Gr ρ m H ρ' m2 H' → RelM X.K H' ρ' m2 → EvR X.K (hid ρ' m2 H') ρ' v (.l m.length) → Q v H') : wpAny (model X.prog X.w) X.A (call (.ref C) us) (EP X pins σ Q) X.xe s := by
  have hx : H (s.heap.objs.size + 1) = none := I.hok.fresh (Nat.le_succ _)
  have hd : H s.heap.objs.size = none := I.hok.fresh (Nat.le_refl _)
  have ne : s.heap.objs.size ≠ s.heap.objs.size + 1 := Nat.ne_of_lt (Nat.lt_succ_self _)
  obtain ⟨R1, g1, _⟩ := R.new (o := .own (s.heap.objs.size + 1)) hd
  obtain ⟨R2, g2⟩ := R1.push (p := s.heap.objs.size + 1) (o := .ins c []) (u := .ins C s.heap.objs.size []) (by rw [upd_ne (Ne.symm ne)]; exact hx) ⟨C, _, [], A.at_, upd_same, .nil⟩
  have g12 := g1.trans g2
  have hp : (ρ ++ [s.heap.objs.size + 1])[m.length]? = some (s.heap.objs.size + 1) := by rw [← R.len, List.getElem?_append_right (Nat.le_refl _), Nat.sub_self]; rfl
  have I2 := Inv.made (C := C) I
  have sp : spD X.K F (V.ref (s.heap.objs.size + 1) :: vs) (upd (upd H s.heap.objs.size (.own (s.heap.objs.size + 1))) (s.heap.objs.size + 1) (.ins C s.heap.objs.size [])) (fun v H' => v = .non ∧ Q (.ref (s.heap.objs.size + 1)) H') E0 :=
    ⟨_, _, .l m.length :: rs, R2, .cons ⟨_, hp, rfl⟩ (ea.gr g12), .d .none, m2, hF, fun v H' ρ' g3 R3 r3 => by
      have r3' : Dt X.K (hid ρ' m2 H') v .none := r3
      cases r3'
      exact ⟨rfl, q _ H' ρ' (g12.trans g3) R3 ⟨_, pre_get g3.pre hp, rfl⟩⟩⟩
  have hl : us.length + 1 = ps.length := by
    have z := G.len _ _ _ hF
    rw [← r.length, ea.len]
    exact z
  have bd : BindsTo { s with heap := (s.heap.push PySem.W.emptyDict).push (PySem.W.instObj C s.heap.objs.size) } fd ⟨Value.ref (s.heap.objs.size + 1) :: us, []⟩ (ps.zip (Value.ref (s.heap.objs.size + 1) :: us)) := by
    have b0 := B _ (Value.ref (s.heap.objs.size + 1) :: us) I2.kIn (by rw [List.append_nil]; exact hl)
    rw [List.append_nil] at b0
    exact b0
  have run := G.run (X.A.under (Code.builtin "type.__call__" ⟨Value.ref C :: us, []⟩)) X.stack _ _ ⟨Value.ref (s.heap.objs.size + 1) :: us, []⟩ (Value.ref (s.heap.objs.size + 1) :: us) (V.ref (s.heap.objs.size + 1) :: vs) _ (show (X.A.under _).guards = some [] from gd) (rm.make C us []) (I2.env0.make C us []) bd (.cons rfl r) sp
  refine wpAny_call (make_map (f := g) I.kIn M.makes M.init (beq_iff_eq.mp M.fn) (codeAny_mono run fun res s1 hq => ?_))
  match res, hq with
  | .error e, hq => exact False.elim hq
  | .ok (.ret u), hq =>
    obtain ⟨v, H', I3, rv, ev, q3⟩ := I2.after hq
    subst ev
    exact ⟨rv, ⟨V.ref (s.heap.objs.size + 1), H', I3, rfl, q3⟩⟩
  | .ok .next, hq => exact False.elim hq
  | .ok .brk, hq => exact False.elim hq
  | .ok .cont, hq => exact False.elim hq
theorem q_make (A : ClsAt X.K c C) (Hc : HasC X.prog X.w X.K X.mg X.base c C k ps F) (gd : X.A.guards = some []) (rm : Room (k + 1) X.A) (gx : Gl X c) (ha : PA X (a :: es) (ra X.K ga))
    (hdb : (c == ("__debug__" : Str)) = false := by decide) (h1 : starEach (a :: es) X.env = (false, eval a X.env) :: starEach es X.env := by rfl) (h2 : (backTo pos (starEach es X.env)).any (·.1) = false := by rfl) :
    PE X (.Call (.Name c p) (a :: es) [] pos) (rd X.K (eMake c F ga)) := by
  obtain ⟨g, fd, G, M, B⟩ := Hc.ex
  refine ⟨fun pins s σ H Q I h => ?_⟩
  obtain ⟨ρ, e, m, R, E, r, m', hr, q⟩ := h
  unfold eMake at hr
  split at hr
  case h_2 => cases hr
  rename_i rs m1 q1
  split at hr
  case h_2 => cases hr
  rename_i m2 q2
  cases hr
  refine wpAny_Call_Name_kw (ld_glob I gx Hc.mg ?_ hdb)
  have hq : ra X.K ga σ H fun vs H1 => ∃ ρ1, Gr ρ m H ρ1 m1 H1 ∧ RelM X.K H1 ρ1 m1 ∧ EvA X.K (hid ρ1 m1 H1) ρ1 vs rs := ra_mk R E q1 fun vs H1 ρ1 g1 R1 E1 r1 => ⟨ρ1, g1, R1, r1⟩
  refine PySem.W.callWith_K (h₀ := X.base) I.ok.mod.kin M.kp (thn (ha.run pos pins s σ H _ I hq) fun us s1 ⟨vs, H1, I1, rr, ρ1, g1, R1, r1⟩ => ⟨I1.kIn, ?_⟩) h1 h2
  exact run_mk A M G B gd rm I1 rr R1 r1 q2 fun v H' ρ' g2 R2 r2 => q v H' ρ' (g1.trans g2) R2 r2
end
end DL
set_option Elab.async false
set_option linter.all false
set_option maxRecDepth 100000
set_option maxHeartbeats 4000000
/-! sorted: numbers, tuples of numbers -/
namespace DL
open PySem PySem.Spec PyProof.Rows L2

/-! ### lists of numbers in order -/
def lexL : List Int → List Int → Bool
  | [], [] => false
  | [], _ :: _ => true
  | _ :: _, [] => false
  | x :: xs, y :: ys => if x = y then lexL xs ys else decide (x < y)
theorem lexL_irr : ∀ xs : List Int, lexL xs xs = false
  | [] => rfl
  | x :: xs => by rw [lexL, if_pos rfl]; exact lexL_irr xs
theorem lexL_tri : ∀ xs ys : List Int, lexL xs ys = false → lexL ys xs = false → xs = ys
  | [], [], _, _ => rfl
  | [], _ :: _, h, _ => by simp [lexL] at h
  | _ :: _, [], _, h => by simp [lexL] at h
  | x :: xs, y :: ys, h, g => by
    by_cases e : x = y
    · subst e
      rw [lexL, if_pos rfl] at h g
      rw [lexL_tri xs ys h g]
    · rw [lexL, if_neg e] at h
      rw [lexL, if_neg (Ne.symm e)] at g
      simp only [decide_eq_false_iff_not] at h g
      omega
theorem lexL_asym : ∀ xs ys : List Int, lexL xs ys = true → lexL ys xs = false
  | [], [], h => by simp [lexL] at h
  | [], _ :: _, _ => rfl
  | _ :: _, [], h => by simp [lexL] at h
  | x :: xs, y :: ys, h => by
    by_cases e : x = y
    · subst e
      rw [lexL, if_pos rfl] at h ⊢
      exact lexL_asym xs ys h
    · rw [lexL, if_neg e] at h
      rw [lexL, if_neg (Ne.symm e)]
      simp only [decide_eq_true_eq] at h
      exact decide_eq_false (by omega)
theorem lexL_tr : ∀ xs ys zs : List Int, lexL xs ys = true → lexL ys zs = true → lexL xs zs = true
  | [], [], _, h, _ => by simp [lexL] at h
  | [], _ :: _, [], _, g => by simp [lexL] at g
  | [], _ :: _, _ :: _, _, _ => rfl
  | _ :: _, [], _, h, _ => by simp [lexL] at h
  | _ :: _, _ :: _, [], _, g => by simp [lexL] at g
  | x :: xs, y :: ys, z :: zs, h, g => by
    by_cases e : x = y
    · subst e
      rw [lexL, if_pos rfl] at h
      by_cases f : x = z
      · subst f
        rw [lexL, if_pos rfl] at g ⊢
        exact lexL_tr xs ys zs h g
      · rw [lexL, if_neg f] at g ⊢
        exact g
    · rw [lexL, if_neg e] at h
      by_cases f : y = z
      · subst f
        rw [lexL, if_neg e]
        exact h
      · rw [lexL, if_neg f] at g
        simp only [decide_eq_true_eq] at h g
        rw [lexL, if_neg (by omega)]
        exact decide_eq_true (by omega)
/-- what stands nowhere behind -/
def leL (xs ys : List Int) : Bool := !lexL ys xs
theorem leL_tot (xs ys : List Int) : leL xs ys = true ∨ leL ys xs = true := by
  unfold leL
  cases h : lexL ys xs with
  | false => exact .inl rfl
  | true => exact .inr (by rw [lexL_asym _ _ h]; rfl)
theorem leL_anti {xs ys : List Int} (h : leL xs ys = true) (g : leL ys xs = true) : xs = ys := by
  unfold leL at h g
  exact lexL_tri xs ys (by simpa using g) (by simpa using h)
theorem leL_tr {xs ys zs : List Int} (h : leL xs ys = true) (g : leL ys zs = true) : leL xs zs = true := by
  by_cases e : xs = ys
  · rw [e]; exact g
  by_cases f : ys = zs
  · rw [← f]; exact h
  have a : lexL xs ys = true := by
    cases q : lexL xs ys with
    | true => rfl
    | false => exact absurd (lexL_tri xs ys q (by unfold leL at h; simpa using h)) e
  have b : lexL ys zs = true := by
    cases q : lexL ys zs with
    | true => rfl
    | false => exact absurd (lexL_tri ys zs q (by unfold leL at g; simpa using g)) f
  unfold leL
  rw [lexL_asym _ _ (lexL_tr _ _ _ a b)]
  rfl
/-! ### putting things in order by a key -/
def insK {α : Type} (k : α → List Int) (x : α) : List α → List α
  | [] => [x]
  | y :: ys => if leL (k x) (k y) then x :: y :: ys else y :: insK k x ys
def srtK {α : Type} (k : α → List Int) : List α → List α
  | [] => []
  | x :: xs => insK k x (srtK k xs)
theorem insK_perm {α : Type} {k : α → List Int} {x : α} : ∀ ys : List α, (insK k x ys).Perm (x :: ys)
  | [] => List.Perm.refl _
  | y :: ys => by
    unfold insK
    split
    · exact List.Perm.refl _
    · exact ((insK_perm ys).cons y).trans (List.Perm.swap x y ys)
theorem srtK_perm {α : Type} {k : α → List Int} : ∀ xs : List α, (srtK k xs).Perm xs
  | [] => List.Perm.refl _
  | x :: xs => (insK_perm _).trans ((srtK_perm xs).cons x)
theorem insK_srt {α : Type} {k : α → List Int} {x : α} : ∀ ys : List α, ys.Pairwise (fun a b => leL (k a) (k b) = true) → (insK k x ys).Pairwise (fun a b => leL (k a) (k b) = true)
  | [], _ => List.pairwise_singleton _ _
  | y :: ys, h => by
    have h1 := (List.pairwise_cons.mp h).1
    unfold insK
    split
    · rename_i hx
      refine List.pairwise_cons.mpr ⟨fun z hz => ?_, h⟩
      rcases List.mem_cons.mp hz with rfl | hz
      · exact hx
      · exact leL_tr hx (h1 z hz)
    · rename_i hx
      refine List.pairwise_cons.mpr ⟨fun z hz => ?_, insK_srt ys (List.pairwise_cons.mp h).2⟩
      rcases List.mem_cons.mp ((insK_perm ys).mem_iff.mp hz) with rfl | hz
      · exact (leL_tot _ _).resolve_left hx
      · exact h1 z hz
theorem srtK_srt {α : Type} {k : α → List Int} : ∀ xs : List α, (srtK k xs).Pairwise (fun a b => leL (k a) (k b) = true)
  | [] => List.Pairwise.nil
  | x :: xs => insK_srt _ (srtK_srt xs)
theorem srt_uniq : ∀ {xs ys : List (List Int)}, xs.Perm ys → xs.Pairwise (fun a b => leL a b = true) → ys.Pairwise (fun a b => leL a b = true) → xs = ys
  | [], ys, p, _, _ => p.nil_eq
  | x :: xs, [], p, _, _ => p.eq_nil
  | x :: xs, y :: ys, p, h, g => by
    have hx := (List.pairwise_cons.mp h).1
    have hy := (List.pairwise_cons.mp g).1
    have e : x = y := by
      rcases List.mem_cons.mp (p.mem_iff.mp (List.mem_cons_self)) with e | m
      · exact e
      · rcases List.mem_cons.mp (p.mem_iff.mpr (List.mem_cons_self)) with e | n
        · exact e.symm
        · exact leL_anti (hx y n) (hy x m)
    subst e
    rw [srt_uniq p.cons_inv (List.pairwise_cons.mp h).2 (List.pairwise_cons.mp g).2]
theorem insK_map {α : Type} {k : α → List Int} {x : α} : ∀ ys : List α, (insK k x ys).map k = insK id (k x) (ys.map k)
  | [] => rfl
  | y :: ys => by
    simp only [insK, List.map_cons, id]
    split
    · rfl
    · rw [List.map_cons, insK_map ys]
theorem srtK_map {α : Type} {k : α → List Int} : ∀ xs : List α, (srtK k xs).map k = srtK id (xs.map k)
  | [] => rfl
  | x :: xs => by
    show (insK k x (srtK k xs)).map k = insK id (k x) (srtK id (xs.map k))
    rw [insK_map, srtK_map xs]
/-- what is in order and the same things, is what srtK tells -/
theorem srt_is {xs ys : List (List Int)} (p : ys.Perm xs) (h : ys.Pairwise (fun a b => leL a b = true)) : ys = srtK id xs :=
  srt_uniq (p.trans (srtK_perm xs).symm) h (srtK_srt xs)
end DL

/-! ### the model's sort over tuples of numbers -/
namespace DL
open PySem PyProof.Rows SrtO
section
variable {prog : Program} {w : World} {A : Around} {E : Value → Shared → Prop} {s : Shared} {Q : Bool → Shared → Prop}
theorem lex_any {b : Bool} {xs ys : List Value} {ns ms : List Int} (i : Nat) (hx : IntsAre xs ns) (hy : IntsAre ys ms) (hl : ns.length = ms.length) (h : Q (lexL ns ms) s) : PySem.W.KatLex prog w A b false Q (xs.zip ys) i s := by
  induction hx generalizing ys ms i with
  | nil =>
    cases hy with
    | nil => exact PySem.W.kat_nil h
    | cons q u hy => simp at hl
  | @cons p t xs ns hx ih =>
    cases hy with
    | nil => simp at hl
    | @cons q u ys ms hy =>
      have hl2 : ns.length = ms.length := by simpa using hl
      show PySem.W.KatLex prog w A b false Q ((Value.int p t, Value.int q u) :: xs.zip ys) i s
      refine PySem.W.kat_cons (wpAny_eqBool_int ?_)
      by_cases e : p = q
      · subst e
        rw [lexL, if_pos rfl] at h
        rw [beq_self_eq_true]
        exact PySem.W.kat_yes (ih (i + 1) hy hl2 h)
      · rw [lexL, if_neg e] at h
        rw [show (p == q) = false from beq_eq_false_iff_ne.mpr e]
        exact PySem.W.kat_no (TS.oneLt_ints _ h)
/-- the numbers of each tuple, read off the heap -/
theorem swo_lexL (k : Value → List Int) : Swo fun v u => lexL (k v) (k u) := by
  refine ⟨fun x y h => lexL_asym _ _ h, fun x y z h1 h2 => ?_⟩
  have a : leL (k x) (k y) = true := by unfold leL; rw [h1]; rfl
  have b : leL (k y) (k z) = true := by unfold leL; rw [h2]; rfl
  have := leL_tr a b
  unfold leL at this
  simpa using this
theorem firsts_any {h : Heap} : ∀ vs : List Value, (∀ v ∈ vs, ∃ ns, TS.TupInts h v ns ∧ ns ≠ []) → ∃ fs, PySem.W.KatTups h vs fs ∧ fs.length = vs.length ∧ ∀ f, f ∈ fs → ∃ n t, f = Value.int n t
  | [], _ => ⟨[], PySem.W.KatTups.nil, rfl, fun f hf => by simp at hf⟩
  | v :: vs, x => by
    obtain ⟨fs, k, hl, hi⟩ := firsts_any vs fun u hu => x u (List.mem_cons_of_mem _ hu)
    obtain ⟨ns, ⟨a, xs, rfl, ⟨o, ho, hc, n, hdt⟩, i⟩, hn⟩ := x v List.mem_cons_self
    obtain ⟨y, ys, e⟩ : ∃ y ys, xs.toList = y :: ys := by
      cases q : xs.toList with
      | nil =>
        rw [q] at i
        cases i
        exact absurd rfl hn
      | cons y ys => exact ⟨y, ys, rfl⟩
    obtain ⟨m, t, hy⟩ := i.all y (by rw [e]; exact List.mem_cons_self)
    refine ⟨y :: fs, PySem.W.KatTups.cons ho hc hdt ?_ k, by simp [hl], fun f hf => ?_⟩
    · have z := congrArg (fun l : List Value => l[0]?) e
      simpa using z
    · rcases List.mem_cons.mp hf with rfl | hf
      · exact ⟨m, t, hy⟩
      · exact hi f hf
theorem tups_sortable {a : Addr} {vs : List Value} {d : Nat} {k : Value → List Int} (hd : 1 ≤ d) (h0 : 0 < vs.length) (hp : ∀ v ∈ vs, TS.TupInts s.heap v (k v) ∧ (k v).length = d) (ha : ∀ o, s.heap.get? a = some o → o.cls ≠ .type "tuple") :
    SortableO prog w A s a vs fun v u => lexL (k v) (k u) := by
  intro h2 keep
  have hp2 : ∀ v ∈ vs, TS.TupInts h2 v (k v) ∧ (k v).length = d := fun v hm => ⟨(hp v hm).1.keeps fun b o e c => keep b o (fun z => by subst z; exact ha o e c) e, (hp v hm).2⟩
  obtain ⟨fs, f1, f2, f3⟩ := firsts_any (h := h2) vs fun v hm => ⟨k v, (hp2 v hm).1, fun z => by
    have := (hp2 v hm).2
    rw [z, List.length_nil] at this
    omega⟩
  refine ⟨tuples' true, fun Q E hq => ?_, fun p q hm hm2 => ?_⟩
  · refine PySem.W.kat_kind (T := .type "int") f1 (by omega) (fun f hm => ?_) (by rfl) ?_
    · obtain ⟨x, t, rfl⟩ := f3 f hm
      exact PySem.W.Looks.now
    · have e : (Value.type "int" != Value.type "tuple") = true := by first | decide +kernel | rfl | decide
      rw [e]
      exact hq
  · obtain ⟨⟨x, xs, e1, ⟨o, ho, hc, n, hdt⟩, i1⟩, l1⟩ := hp2 _ hm
    obtain ⟨⟨y, ys, e2, ⟨o2, ho2, hc2, n2, hdt2⟩, i2⟩, l2⟩ := hp2 _ hm2
    show wpAny (model prog w) A (keyLt' (tuples' true) p.1 q.1) (fun r s1 => s1 = { s with heap := h2 } ∧ r = lexL (k p.1) (k q.1)) (fun _ _ => False) { s with heap := h2 }
    generalize hk1 : k p.1 = kp at *
    generalize hk2 : k q.1 = kq at *
    rw [e1, e2]
    refine PySem.W.kat_lt ho hdt ho2 hdt2 ?_
    have sz : xs.size = ys.size := by
      have a1 := i1.length
      have a2 := i2.length
      rw [Array.length_toList] at a1 a2
      omega
    rw [show decide (xs.size < ys.size) = false from decide_eq_false (by omega)]
    exact lex_any 0 i1 i2 (by omega) ⟨rfl, rfl⟩
end
end DL

namespace DL
open PySem PySem.Spec PyProof.Rows L2
/-- tuples of numbers, each of so many -/
def asT (d : Nat) : List PyData → Option (List (List Int))
  | [] => some []
  | .tuple xs :: r => match asI xs with
    | some ns => if ns.length = d then (asT d r).map (ns :: ·) else none
    | none => none
  | _ :: _ => none
def tupD (ns : List Int) : PyData := .tuple (ns.map .int)
def sortedD : PyData → Option PyData
  | .list ds => match asI ds with
    | some ns => some (.list ((srtK (fun i => [i]) ns).map .int))
    | none => match ds with
      | .tuple (x :: xs) :: r => match asT (xs.length + 1) (.tuple (x :: xs) :: r) with
        | some nss => some (.list ((srtK id nss).map tupD))
        | none => none
      | _ => none
  | _ => none
theorem asI_is : ∀ {ds : List PyData} {ns : List Int}, asI ds = some ns → ds = ns.map .int
  | [], _, h => by cases h; rfl
  | d :: ds, ns, h => by
    cases d <;> simp only [asI] at h <;> try cases h
    rename_i i
    cases q : asI ds with
    | none => rw [q] at h; cases h
    | some ms => rw [q] at h; cases h; rw [asI_is q]; rfl
theorem asT_is {d : Nat} : ∀ {ds : List PyData} {nss : List (List Int)}, asT d ds = some nss → ds = nss.map tupD ∧ ∀ ns ∈ nss, ns.length = d
  | [], _, h => by cases h; exact ⟨rfl, by simp⟩
  | x :: ds, nss, h => by
    cases x <;> simp only [asT] at h <;> try cases h
    rename_i xs
    cases q : asI xs with
    | none => rw [q] at h; cases h
    | some ns =>
      rw [q] at h
      dsimp only at h
      split at h
      · rename_i hl
        cases r : asT d ds with
        | none => rw [r] at h; cases h
        | some mss =>
          rw [r] at h
          cases h
          obtain ⟨e1, e2⟩ := asT_is r
          refine ⟨by rw [e1]; simp [tupD, asI_is q], fun ms hm => ?_⟩
          rcases List.mem_cons.mp hm with rfl | hm
          · exact hl
          · exact e2 ms hm
      · cases h
theorem int_perm {ns ms : List Int} (p : ms.Perm ns) (h : ms.Pairwise (· ≤ ·)) : ms = srtK (fun i => [i]) ns := by
  have e : ms.map (fun i : Int => [i]) = srtK id (ns.map fun i => [i]) := srt_is (p.map _) (List.pairwise_map.mpr (h.imp fun {x y} hxy => by
    unfold leL lexL
    by_cases z : y = x
    · simp [z, lexL]
    · simp [z]; omega))
  rw [← srtK_map] at e
  exact (List.map_inj_right (f := fun i : Int => [i]) (by intro x y z; simpa using z)).mp e
theorem dta_ints {K : Frg} {G : Hp} : ∀ ns : List Int, DtA K G (ns.map V.int) (ns.map PyData.int)
  | [] => .nil
  | n :: ns => .cons (.int n) (dta_ints ns)
theorem asI_ints : ∀ ns : List Int, asI (ns.map PyData.int) = some ns
  | [] => rfl
  | n :: ns => by simp [asI, asI_ints ns]
theorem dta_back {K : Frg} {G : Hp} (f : Value → PyData) : ∀ us : List Value, (∀ u ∈ us, ∃ t, u = Value.ref t ∧ Dt K G (.ref t) (f u)) → DtA K G (us.map backV) (us.map f)
  | [], _ => .nil
  | u :: us, h => by
    obtain ⟨t, rfl, ht⟩ := h u List.mem_cons_self
    exact .cons ht (dta_back f us fun v hv => h v (List.mem_cons_of_mem _ hv))
theorem cd_sorted {X : Cx} : CallR X (.builtin "sorted") (rcb X.K (c1 sortedD)) := by
  intro pins s σ H vs us Q I r h
  obtain ⟨ρ, m, v, d, z, rfl, R, hv, hz, k⟩ := c1_of h
  unfold sortedD at hz
  split at hz
  case h_2 => cases hz
  rename_i ds
  obtain ⟨a, xs, rfl, h1, h2⟩ := hv.list hid_le
  split at hz
  · rename_i ns hn
    cases hz
    cases asI_v h2 hn
    refine cr_sortedI pins s σ H _ us Q I r ⟨a, ns, rfl, .inl (.inl h1), fun ns2 p hp hs hH => ?_⟩
    have e0 := int_perm hp hs
    subst e0
    exact rop_new R k (dta_ints _) hH
  · split at hz
    case h_2 => cases hz
    rename_i x0 xs0 r0 _
    split at hz
    case h_2 => cases hz
    rename_i nss hn
    cases hz
    obtain ⟨e1, e2⟩ := asT_is hn
    rw [e1] at h2
    obtain ⟨its, rv, hl, hsz⟩ := I.list (.inl (.inl h1))
    obtain ⟨u, rfl, ru⟩ := vals1 r
    obtain rfl : u = Value.ref a := ru
    -- every item is a tuple of numbers
    have all : ∀ {xs : List V} {its : List Value} {nss : List (List Int)}, Vals xs its → DtA X.K (hid ρ m H) xs (nss.map tupD) → (∀ ns ∈ nss, ns.length = xs0.length + 1) → (∀ v ∈ its, TS.TupInts s.heap v (TS.intsOf s.heap v) ∧ (TS.intsOf s.heap v).length = xs0.length + 1) ∧ its.map (TS.intsOf s.heap) = nss ∧ ∀ v ∈ its, ∃ t, v = Value.ref t ∧ Dt X.K (hid ρ m H) (.ref t) (tupD (TS.intsOf s.heap v)) := by
      intro xs its nss
      induction nss generalizing xs its with
      | nil =>
        intro r q _
        cases q
        cases r
        exact ⟨by simp, rfl, by simp⟩
      | cons ns nss ih =>
        intro r q hl
        simp only [List.map_cons] at q
        cases q with
        | cons q1 q2 =>
        cases r with
        | cons r1 r2 =>
        obtain ⟨i1, i2, i3⟩ := ih r2 q2 fun n hn => hl n (List.mem_cons_of_mem _ hn)
        have q1' := q1
        unfold tupD at q1'
        cases q1' with
        | @tup t ws _ t1 t2 =>
        rename_i u _
        obtain rfl : u = Value.ref t := r1
        have e3 : ws = ns.map V.int := asI_v t2 (asI_ints ns)
        subst e3
        obtain ⟨arr, ra, ha, _⟩ := I.tuple (sqt_same hid_le t1)
        have ti : TS.TupInts s.heap (.ref t) ns := ⟨t, _, rfl, ha, ra.ints⟩
        have e4 := ti.ints
        refine ⟨fun v hv => ?_, by rw [List.map_cons, i2, e4], fun v hv => ?_⟩
        · rcases List.mem_cons.mp hv with rfl | hv
          · rw [e4]; exact ⟨ti, hl ns List.mem_cons_self⟩
          · exact i1 v hv
        · rcases List.mem_cons.mp hv with rfl | hv
          · exact ⟨t, rfl, by rw [e4]; exact q1⟩
          · exact i3 v hv
    obtain ⟨c1, c2, c3⟩ := all rv h2 e2
    refine SrtO.sorted_ord (swo_lexL (TS.intsOf s.heap)) hl.isList (by rw [← rv.length]; exact hsz) (fun h2 h₁ a' ha kk => ?_) fun out hs hb => ?_
    · refine tups_sortable (s := { s with heap := h₁ }) (d := xs0.length + 1) (by omega) (by omega) (fun v hm => ⟨(c1 v hm).1.keeps fun b o e _ => (kk b o e).2, (c1 v hm).2⟩) fun o e => ?_
      have e' : some o = some (seqObj "list" its.toArray 0) := e.symm.trans ha
      cases e'
      intro c
      exact absurd (Value.type.inj c) (by decide)
    · have e5 : out.map (TS.intsOf s.heap) = srtK id nss := by
        refine srt_is (by rw [← c2]; exact hb.perm.map _) (List.pairwise_map.mpr (hs.imp fun {x y} hxy => ?_))
        unfold leL
        have hxy' : lexL (TS.intsOf s.heap y) (TS.intsOf s.heap x) = false := hxy
        rw [hxy']
        rfl
      have c4 : ∀ u ∈ out, ∃ t, u = Value.ref t ∧ Dt X.K (hid ρ m H) (.ref t) (tupD (TS.intsOf s.heap u)) := fun u hu => c3 u (hb.perm.mem_iff.mp hu)
      have d1 := dta_back (K := X.K) (G := hid ρ m H) (fun u => tupD (TS.intsOf s.heap u)) out c4
      have d2 : out.map (fun u => tupD (TS.intsOf s.heap u)) = (srtK id nss).map tupD := by rw [← e5, List.map_map]; rfl
      rw [d2] at d1
      obtain ⟨ep, he⟩ := PyProof.Rows.sortedAll_at s.heap its out.toArray
      have hlen : (out.map backV).length ≤ sizeLine := by
        rw [List.length_map, hb.perm.length_eq, ← rv.length]
        exact hsz
      have hfree : H (s.heap.objs.size + 1) = none := I.hok.fresh (Nat.le_succ _)
      exact ⟨.ref _, upd H (s.heap.objs.size + 1) (.lst (out.map backV)), I.laid (t' := s.toks) (fun _ _ => PyProof.Rows.sortedAll_old) (Nat.le_succ _) ⟨hlen, out, ep, vals_back (fun u hu => (c4 u hu).imp fun t z => z.1), he⟩, rfl, rop_new R k d1 hfree⟩
end DL
set_option Elab.async false
set_option linter.all false
set_option maxRecDepth 100000
set_option maxHeartbeats 4000000
namespace DL
open PySem PySem.Spec PyProof.Rows L2

/-! ### what is never reached; what is forgotten -/
def sNever : MS := fun _ _ => none
theorem q_never {X : Cx} {st : Stmt} : PS X st (rs X.K sNever) := PS.imp ps_never fun D σ H ⟨ρ, e, m, R, E, o, m', hr, k⟩ => by cases hr
def wipeO (vs : List Nat) : Out → Out
  | .nx e => .nx (wipeE e vs)
  | .bk e => .bk (wipeE e vs)
  | .ct e => .ct (wipeE e vs)
  | .rt r => .rt r
/-- a statement, and then names that nobody asks again -/
def sW (vs : List Nat) (b : MS) : MS := fun e m => match b e m with
  | some (o, m1) => some (wipeO vs o, m1)
  | none => none
theorem EnvR.less {K : Frg} {G : Hp} {ρ : List Addr} {σ : L2.St} {e : Env'} (E : EnvR K G ρ σ e) (vs : List Nat) : EnvR K G ρ σ (wipeE e vs) :=
  ⟨by rw [wipeE_len]; exact E.len, fun i x h => E.get i x (wipeE_get h).1⟩
theorem rs_w {K : Frg} {vs : List Nat} {b : MS} {D : Ends} {σ : L2.St} {H : Hp} (h : rs K (sW vs b) D σ H) : rs K b D σ H := by
  obtain ⟨ρ, e, m, R, E, o, m', hr, k⟩ := h
  unfold sW at hr
  split at hr
  case h_2 => cases hr
  rename_i o1 m1 h1
  cases hr
  refine ⟨ρ, e, m, R, E, o1, _, h1, ?_⟩
  cases o1 with
  | nx e1 => exact fun σ' H' ρ' g R' E' => k σ' H' ρ' g R' (E'.less vs)
  | bk e1 => exact fun σ' H' ρ' g R' E' => k σ' H' ρ' g R' (E'.less vs)
  | ct e1 => exact fun σ' H' ρ' g R' E' => k σ' H' ρ' g R' (E'.less vs)
  | rt r => exact k
theorem q_w {X : Cx} {st : Stmt} {b : MS} {vs : List Nat} (h : PS X st (rs X.K b)) : PS X st (rs X.K (sW vs b)) := PS.imp h fun D σ H q => rs_w q
theorem qs_w {X : Cx} {st : List Stmt} {b : MS} {vs : List Nat} (h : PSs X st (rs X.K b)) : PSs X st (rs X.K (sW vs b)) := PSs.imp h fun D σ H q => rs_w q

/-! ### an instance that never changes again -/
theorem q_frzO {X : Cx} {a : Expr} {fa : ME} (h : PE X a (rd X.K fa)) : PE X a (rd X.K (eFrzO fa)) := PE.imp h fun σ H Q ⟨ρ, e, m, R, E, r, m', hr, k⟩ => by
  unfold eFrzO at hr
  split at hr
  · rename_i c fs m1 h1
    cases hr
    exact ⟨ρ, e, m, R, E, _, _, h1, k⟩
  · rename_i i m1 h1
    split at hr
    case isFalse => cases hr
    rename_i hi
    obtain ⟨rfl, hl⟩ := hi
    split at hr
    case h_2 => cases hr
    rename_i c fs h2
    cases hr
    refine rd_mk R E h1 fun v H1 ρ1 g1 R1 E1 r1 => ?_
    have e1 : ρ1.take m.length = ρ := by rw [← R.len]; exact take_pre g1.pre
    have R2 := R1.take m.length
    obtain ⟨a, a1, a2⟩ := r1
    obtain ⟨C, dx, ys, c1, c2, c3⟩ := R1.ok _ a _ a1 h2
    have na : ¬ Hid (ρ1.take m.length) (m1.take m.length) a := by
      rintro ⟨i, u, e1, _, _⟩
      rw [List.getElem?_take] at e1
      split at e1
      · rename_i hi
        have hi2 := (List.getElem?_eq_some_iff.mp e1).1
        have := (List.getElem?_inj hi2 R1.nd).mp (e1.trans a1.symm)
        omega
      · cases e1
    have s2 : Same (hid ρ1 m1 H1) (hid (ρ1.take m.length) (m1.take m.length) H1) := hid_take _
    have d2 : EvR X.K (hid (ρ1.take m.length) (m1.take m.length) H1) (ρ1.take m.length) v (.o c fs) := ⟨a, C, dx, ys, a2, c1, by rw [hid_no na]; exact c2, c3.mono s2⟩
    rw [e1] at R2 s2 d2
    exact k v H1 ρ ⟨List.prefix_refl _, g1.same.trans s2⟩ R2 d2
  · cases hr

/-! ### is True, is not False -/
def isB (neg : Bool) : PyData → PyData → Option PyData
  | .bool a, .bool b => some (.bool (if neg then !decide (a = b) else decide (a = b)))
  | _, _ => none
theorem od_is {X : Cx} : OpR X (compareOp .Is) (rop X.K (isB false)) := by
  intro pins s σ H x y v u Q I rx ry h
  obtain ⟨ρ, m, dx, dy, z, R, hx, hy, hz, k⟩ := h
  unfold isB at hz
  split at hz
  · cases hz
    cases hx.bl; cases hy.bl
    exact op_isBl pins s σ H _ _ v u Q I rx ry ⟨_, _, rfl, rfl, rop_k R k (.bl _)⟩
  · cases hz
theorem od_isnot {X : Cx} : OpR X (compareOp .IsNot) (rop X.K (isB true)) := by
  intro pins s σ H x y v u Q I rx ry h
  obtain ⟨ρ, m, dx, dy, z, R, hx, hy, hz, k⟩ := h
  unfold isB at hz
  split at hz
  · cases hz
    cases hx.bl; cases hy.bl
    exact op_notBl pins s σ H _ _ v u Q I rx ry ⟨_, _, rfl, rfl, rop_k R k (.bl _)⟩
  · cases hz

/-! ### xs.pop(i) -/
def ePop (f g : ME) : ME := fun e m => match f e m with
  | some (.l i, m1) => match m1[i]? with
    | some (.lst _) => match g e m1 with
      | some (.d (.int j), m2) => match m2[i]? with
        | some (.lst ds) => if 0 ≤ j ∧ j < 2 ^ 63 then (match ds[j.toNat]? with
          | some x => some (.d x, m2.set i (.lst (ds.eraseIdx j.toNat)))
          | none => none) else none
        | _ => none
      | _ => none
    | _ => none
  | _ => none
theorem DtA.erase {K : Frg} {G : Hp} : ∀ {vs : List V} {ds : List PyData} (n : Nat), DtA K G vs ds → DtA K G (vs.eraseIdx n) (ds.eraseIdx n)
  | _, _, _, .nil => by simp; exact .nil
  | _, _, 0, .cons _ q => q
  | _, _, n + 1, .cons h q => .cons h (DtA.erase n q)
section
variable {X : Cx} {o a : Expr} {f g : ME} {apos cpos : Pos}
theorem q_pop (ho : PE X o (rd X.K f)) (ha : PE X a (rd X.K g)) (hb : attributeBase o "pop" X.env (eval o X.env) = eval o X.env := by rfl)
    (hfew : ((((backTo cpos (starEach (a :: []) X.env)).all fun x => !x.1) && (backToKw cpos (keywordEach [] X.env)).all fun x => x.1.isSome) && decide (((a :: []).length + ([] : List Keyword).length + if ([] : List Keyword).isEmpty = true then 0 else 1) < 30)) = true := by rfl)
    (hl : (apos.endLine == cpos.line) = true := by rfl) (h1 : starEach [a] X.env = (false, eval a X.env) :: starEach [] X.env := by rfl) (h2 : ((backTo cpos (starEach [] X.env)).any fun x => x.1) = false := by rfl) :
    PE X (.Call (.Attribute o "pop" apos) [a] [] cpos) (rd X.K (ePop f g)) :=
  PE.imp (pe_bm PySem.F.plainAttrs_list PySem.F.slot_list_pop PySem.F.type_list_pop mt_popAt ho (pa_cons ha pa_nil h1) hb hfew hl h1 h2) fun σ H Q ⟨ρ, e, m, R, E, r, m', hr, k⟩ => by
    unfold ePop at hr
    split at hr
    case h_2 => cases hr
    rename_i i m1 q1
    split at hr
    case h_2 => cases hr
    rename_i ds0 q0
    split at hr
    case h_2 => cases hr
    rename_i j m2 q2
    split at hr
    case h_2 => cases hr
    rename_i ds q3
    split at hr
    case isFalse => cases hr
    rename_i hl
    split at hr
    case h_2 => cases hr
    rename_i x hx
    cases hr
    refine rd_mk R E q1 fun v1 H1 ρ1 g1 R1 E1 r1 => ?_
    obtain ⟨b, b1, rfl⟩ := r1
    obtain ⟨xs0, x1, _⟩ := R1.lst b1 q0
    refine ⟨.inl ⟨rfl, xs0, .inl (.inl x1)⟩, ?_⟩
    refine rd_mk R1 E1 q2 fun v2 H2 ρ2 g2 R2 E2 r2 => ?_
    have b2 := pre_get g2.pre b1
    have r2' : Dt X.K (hid ρ2 m2 H2) v2 (.int j) := r2
    cases r2'
    obtain ⟨xs, y1, y2⟩ := R2.lst b2 q3
    obtain ⟨w, w1, w2⟩ := y2.get hx
    have hlt := (List.getElem?_eq_some_iff.mp w1).1
    obtain ⟨R3, g3⟩ := R2.write (o' := .lst (ds.eraseIdx j.toNat)) (u := .lst (xs.eraseIdx j.toNat)) b2 q3 (fun z => nomatch z) (fun z => nomatch z) ⟨_, upd_same, y2.erase _⟩
    refine ⟨b, xs, j, j.toNat, w, rfl, rfl, y1, by omega, hl.2, ?_, w1, k _ _ ρ2 ((g1.trans g2).trans g3) R3 (Dt.mono g3.same _ w2)⟩
    have h0 : 0 ≤ j := hl.1
    have h3 : j < (xs.length : Int) := by omega
    have h4 : ¬ j < 0 := by omega
    simp [seqIndex?, h4, h0, h3]
end

/-! ### str(n), int(b) -/
def strI : PyData → Option PyData
  | .str z => some (.str z)
  | .int i => if i.natAbs.log2 < 1920 then some (.str (Str.ofString (toString i))) else none
  | _ => none
def intD : PyData → Option PyData
  | .int i => some (.int i)
  | .bool b => some (.int (if b = true then 1 else 0))
  | _ => none
theorem cd_str {X : Cx} : CallR X (.type "str") (rcb X.K (c1 strI)) := by
  intro pins s σ H xs us Q I r h
  obtain ⟨ρ, m, v, d, z, rfl, R, hd, hz, k⟩ := c1_of h
  unfold strI at hz
  split at hz
  · cases hz
    cases hd.str
    exact SkE.call_str_str pins s σ H _ us Q I r ⟨_, rfl, rop_k R k (.str _)⟩
  · split at hz
    · cases hz
      cases hd.int
      exact call_str_int pins s σ H _ us Q I r ⟨_, rfl, by assumption, rop_k R k (.str _)⟩
    · cases hz
  · cases hz
theorem cd_int {X : Cx} : CallR X (.type "int") (rcb X.K (c1 intD)) := by
  intro pins s σ H xs us Q I r h
  obtain ⟨ρ, m, v, d, z, rfl, R, hd, hz, k⟩ := c1_of h
  unfold intD at hz
  split at hz
  · cases hz
    cases hd.int
    exact call_int1 pins s σ H _ us Q I r (.inl ⟨_, rfl, rop_k R k (.int _)⟩)
  · cases hz
    cases hd.bl
    exact call_int1 pins s σ H _ us Q I r (.inr ⟨_, rfl, rop_k R k (.int _)⟩)
  · cases hz

/-! ### a, b, c = x, y, z; targets of any kind -/
theorem par3_mk {K : Frg} {i j l : Nat} {fa : MA} {D : Ends} {σ : L2.St} {H : Hp} (h : rs K (sPar3 i j l fa) D σ H) : tPar3 i j l (ra K fa) D σ H := by
  obtain ⟨ρ, e, m, R, E, o, m', hr, k⟩ := h
  unfold sPar3 at hr
  split at hr
  · rename_i x y z m1 h1
    cases hr
    refine ra_mk R E h1 fun vs H1 ρ1 g1 R1 E1 q => ?_
    cases q with
    | cons q1 q2 =>
      cases q2 with
      | cons q2 q3 =>
        cases q3 with
        | cons q3 q4 =>
          cases q4
          exact ⟨_, _, _, rfl, k _ H1 ρ1 g1 R1 (((E1.set i q1).set j q2).set l q3)⟩
  · cases hr
theorem q_par3 {X : Cx} {i j l : Nat} {x y z : Str} {a b c : Expr} {fa : MA} {px py pz pt pos : Pos} {kt k2 pt2} (hc : X.calm = true) (hN : X.N.Nodup) (hi : X.N[i]? = some x) (hj : X.N[j]? = some y) (hl : X.N[l]? = some z) (hij : i ≠ j) (hil : i ≠ l) (hjl : j ≠ l)
    (hx : X.env.scope.names.lookup x = some .local) (hy : X.env.scope.names.lookup y = some .local) (hz : X.env.scope.names.lookup z = some .local) (ha : PA X [a, b, c] (ra X.K fa))
    (hw : swappedStores [.Tuple [.Name x px, .Name y py, .Name z pz] kt pt] (.Tuple [a, b, c] k2 pt2) X.env = pure (some [x, y, z]) := by rfl)
    (hs : swapsWithSole [.Tuple [.Name x px, .Name y py, .Name z pz] kt pt] (.Tuple [a, b, c] k2 pt2) pos.line X.env = pure false := by rfl) :
    PS X (.Assign [.Tuple [.Name x px, .Name y py, .Name z pz] kt pt] (.Tuple [a, b, c] k2 pt2) pos) (rs X.K (sPar3 i j l fa)) := PS.imp (ps_par3 hc hN hi hj hl hij hil hjl hx hy hz ha hw hs) fun D σ H h => par3_mk h

def setAllE (e : Env') : List Nat → List EV → Env'
  | i :: is, x :: xs => setAllE (e.set i (some x)) is xs
  | _, _ => e
def gTpE (is : List Nat) : MG := fun x e _ => match x with
  | .d (.tuple ds) => if ds.length = is.length then some (setAllE e is (ds.map .d)) else none
  | .t xs => if xs.length = is.length then some (setAllE e is xs) else none
  | _ => none
def rgsE (K : Frg) (vs : List Nat) (is : List Nat) : TGs := fun ws σ H Q => ∃ ρ e m xs, RelM K H ρ m ∧ EnvR K (hid ρ m H) ρ σ e ∧ EvA K (hid ρ m H) ρ ws xs ∧ xs.length = is.length ∧
  ∀ σ', wipe σ' vs = wipe σ vs → EnvR K (hid ρ m H) ρ σ' (setAllE e is xs) → Q σ' H
theorem dta_ev {K : Frg} {G : Hp} {ρ : List Addr} : ∀ {ws : List V} {ds : List PyData}, DtA K G ws ds → EvA K G ρ ws (ds.map .d)
  | _, _, .nil => .nil
  | _, _, .cons h q => .cons h (dta_ev q)
section
variable {X : Cx} {vs is : List Nat} {i : Nat} {x : Str} {p pos : Pos} {a : Expr} {es : List Expr}
theorem q_gnilE : PGs X [] (rgsE X.K vs []) := PGs.imp pgs_nil fun ws σ H Q ⟨ρ, e, m, xs, R, E, hd, hl, k⟩ => by
  cases xs with
  | nil => cases hd; exact ⟨rfl, k σ rfl (by unfold setAllE; exact E)⟩
  | cons d ds => cases hl
theorem q_gconsE (hN : X.N.Nodup) (hi : X.N[i]? = some x) (hx : Loc X.env.scope x) (h2 : PGs X es (rgsE X.K vs is)) (hv : i ∈ vs := by simp) (hf : X.fn x = true ∨ X.env.scope.names.lookup x = some .local := by first | exact .inl rfl | exact .inr rfl | assumption)
    (hs : (assignEach (.Name x p :: es) X.env).map (·.2) = assign (.Name x p) X.env :: (assignEach es X.env).map (·.2) := by rfl) : PGs X (.Name x p :: es) (rgsE X.K vs (i :: is)) :=
  PGs.imp (pgs_cons (pg_name hN hi hx hf) h2 hs) fun ws σ H Q ⟨ρ, e, m, xs, R, E, hd, hl, k⟩ => by
    cases hd with
    | nil => cases hl
    | cons h q =>
      refine ⟨_, _, rfl, ?_⟩
      exact ⟨ρ, _, m, _, R, E.set i h, q, by simpa using hl, fun σ' hw E' => k σ' (hw.trans (wipe_set hv)) E'⟩
theorem q_gtupE {k : Nat} {n : Nat} (hc : X.calm = true) (h : PGs X es (rgsE X.K vs is)) (hn : (assignEach es X.env).length = n := by rfl) (hst : (assignEach es X.env).findIdx? (·.1) = none := by rfl) (hl : is.length = n := by rfl) : PG X (.Tuple es k pos) (rg X.K vs (gTpE is)) :=
  PG.imp (pg_tup hc h hn hst) fun v σ H Q ⟨ρ, e, m, y, R, E, hy, e', he, kk⟩ => by
    unfold gTpE at he
    split at he
    · split at he
      · rename_i hlen
        cases he
        cases hy with
        | tup h1 h2 =>
        exact ⟨_, _, rfl, sqt_same hid_le h1, by rw [h2.len, hlen, hl], ρ, e, m, _, R, E, dta_ev h2, by rw [List.length_map]; exact hlen, kk⟩
      · cases he
    · split at he
      · rename_i hlen
        cases he
        obtain ⟨b, ws, rfl, h1, h2⟩ := hy
        have h3 := all_evA h2
        exact ⟨_, _, rfl, sqt_same hid_le h1, by rw [evA_len h3, hlen, hl], ρ, e, m, _, R, E, h3, hlen, kk⟩
      · cases he
    · cases he
end
end DL
set_option Elab.async false
set_option linter.all false
set_option maxRecDepth 100000
set_option maxHeartbeats 4000000
namespace DL
open PySem PySem.Spec PyProof.Rows L2

/-! ### a def that hands back data -/
def frzF (F : MF) : MF := fun rs m => match F rs m with
  | some (.l i, m1) => if i < m.length then some (.l i, m1) else if i = m.length ∧ m1.length = m.length + 1 then
      (match m1[i]? with
      | some (.lst ds) => some (.d (.list ds), m1.take m.length)
      | some (.dct kvs) => some (.d (.dict (kvD kvs)), m1.take m.length)
      | some (.ins c fs) => some (.o c fs, m1.take m.length)
      | _ => none) else none
  | r => r
theorem spD_frz {K : Frg} {F : MF} {vs : List V} {H : Hp} {Q : VK} (h : spD K (frzF F) vs H Q E0) : spD K F vs H Q E0 := by
  obtain ⟨ρ, m, rs, R, ea, r, m', hF, k⟩ := h
  refine ⟨ρ, m, rs, R, ea, ?_⟩
  unfold frzF at hF
  split at hF
  case h_2 => exact ⟨r, m', hF, k⟩
  rename_i i m1 h1
  split at hF
  · cases hF; exact ⟨_, _, h1, k⟩
  split at hF
  case isFalse => cases hF
  rename_i hi
  obtain ⟨rfl, hl⟩ := hi
  refine ⟨_, _, h1, fun v H' ρ' g R' hv => ?_⟩
  have e1 : ρ'.take m.length = ρ := by rw [← R.len]; exact take_pre g.pre
  have R2 := R'.take m.length
  have s2 : Same (hid ρ' m1 H') (hid (ρ'.take m.length) (m1.take m.length) H') := hid_take _
  have key : ∀ (z : EV), EvR K (hid (ρ'.take m.length) (m1.take m.length) H') (ρ'.take m.length) v z → some (z, m1.take m.length) = some (r, m') → Q v H' := by
    intro z hz e
    cases e
    rw [e1] at R2 s2 hz
    exact k v H' ρ ⟨List.prefix_refl _, g.same.trans s2⟩ R2 hz
  split at hF
  · rename_i ds h2
    exact key (.d (.list ds)) (frz_dt (x := .list ds) R' hv (by simp only [vw, h2])) hF
  · rename_i kvs h2
    exact key (.d (.dict (kvD kvs))) (frz_dt (x := .dict (kvD kvs)) R' hv (by simp only [vw, h2])) hF
  · rename_i c fs h2
    obtain ⟨a, a1, a2⟩ := hv
    obtain ⟨C, dx, ys, c1, c2, c3⟩ := R'.ok _ a _ a1 h2
    have na : ¬ Hid (ρ'.take m.length) (m1.take m.length) a := by
      rintro ⟨i, u, e1, _, _⟩
      rw [List.getElem?_take] at e1
      split at e1
      · rename_i hi
        have hi2 := (List.getElem?_eq_some_iff.mp e1).1
        have := (List.getElem?_inj hi2 R'.nd).mp (e1.trans a1.symm)
        omega
      · cases e1
    exact key (.o c fs) ⟨a, C, dx, ys, a2, c1, by rw [hid_no na]; exact c2, c3.mono s2⟩ hF
  · cases hF
theorem FnG.frz {P : Program} {w : World} {K : Frg} {mg : Str → Option Value} {base : Heap} {k : Nat} {f : Addr} {fd : FuncData} {ps : List Str} {F : MF} (h : FnG P w K mg base k f fd ps F) : FnG P w K mg base k f fd ps (frzF F) :=
  ⟨fun rs m r hr => by
    unfold frzF at hr
    split at hr
    · rename_i i m1 h1
      exact h.len _ _ _ h1
    · exact h.len _ _ _ hr, fun A o s H a us vs Q g r e b v q => h.run A o s H a us vs Q g r e b v (spD_frz q)⟩
def fnD (n N : Nat) (b : MS) : MF := frzF (fnM n N b)
theorem fnd2 {P : Program} {w : World} {K : Frg} {mg : Str → Option Value} {base : Heap} {x qual : Str} {st : Stmt} {f : Addr} {fd : FuncData} {N ps : List Str} {k n m : Nat} {b : MS} (F : Fun K x qual st f fd) (S : FnScope N ps (defScope st)) (hn : ps.length = n) (hm : N.length = m) (hle : n ≤ m)
    (body : ∀ (cdv : Value) (A : Around) (outer : List Env) (s : Shared) (H : Hp), A.guards = some [] → Room k (A.deeper (envOfC qual (defScope st) s.heap.objs.size f cdv)) →
      PSs (bodyCx P w K mg base N qual st f cdv A outer s H) (defBody st) (rs K b)) : FnG P w K mg base (k + 1) f fd ps (fnD n m b) := FnG.frz (fng2 F S hn hm hle body)

/-! ### what is no longer changed -/
theorem RelM.gone {K : Frg} {ρ : List Addr} {m : Mem} {H : Hp} (R : RelM K H ρ m) (i : Nat) : RelM K H ρ (m.set i .gone) ∧ Gr ρ m H ρ (m.set i .gone) H := by
  have sm : Same (hid ρ m H) (hid ρ (m.set i .gone) H) := fun b o h => by
    obtain ⟨h1, h2⟩ := hid_some h
    rw [hid_no, h1]
    rintro ⟨j, u, e1, e2, e3⟩
    rw [List.getElem?_set] at e2
    split at e2
    · split at e2
      · cases e2; exact e3 rfl
      · cases e2
    · exact h2 ⟨j, u, e1, e2, e3⟩
  refine ⟨⟨by rw [List.length_set]; exact R.len, R.nd, R.al, fun j a o h1 h2 => ?_⟩, List.prefix_refl _, sm⟩
  rw [List.getElem?_set] at h2
  split at h2
  · split at h2
    · cases h2; trivial
    · cases h2
  · exact (R.ok j a o h1 h2).mono sm (List.prefix_refl _) (.inl rfl)
theorem gone_dt {K : Frg} {ρ : List Addr} {m : Mem} {H : Hp} {n : Nat} {v : V} {x : PyData} (R : RelM K H ρ m) (hv : EvR K (hid ρ m H) ρ v (.l n)) (e : vw m (.l n) = some x) : Dt K (hid ρ (m.set n .gone) H) v x := by
  obtain ⟨a, h1, rfl⟩ := hv
  have hn := (List.getElem?_eq_some_iff.mp h1).1
  have na : ¬ Hid ρ (m.set n .gone) a := by
    rintro ⟨i, u, e1, e2, e3⟩
    have := (List.getElem?_inj hn R.nd).mp (h1.trans e1.symm)
    subst this
    rw [List.getElem?_set_self (by rw [← R.len]; exact hn)] at e2
    cases e2
    exact e3 rfl
  have sm := (R.gone n).2.same
  simp only [vw] at e
  cases q : m[n]? with
  | none => rw [q] at e; cases e
  | some o =>
    rw [q] at e
    have ok := R.ok n a o h1 q
    cases o with
    | gone => cases e
    | lst ds =>
      cases e
      obtain ⟨xs, h2, h3⟩ := ok
      exact .lst (by rw [hid_no na]; exact h2) (DtA.mono sm _ h3)
    | dct kvs =>
      cases e
      obtain ⟨ys, h2, h3⟩ := ok
      exact .dic (by rw [hid_no na]; exact h2) (DtK.mono sm _ (kv_dtk h3))
    | ins c fs => cases e
/-- the slot's list is data from here on -/
def zSlot (i : Nat) (e : Env') (m : Mem) : Option (Env' × Mem) := match e[i]? with
  | some (some (.l p)) => match vw m (.l p) with
    | some x => some (e.set i (some (.d x)), m.set p .gone)
    | none => none
  | _ => some (e, m)
def zSlots : List Nat → Env' → Mem → Option (Env' × Mem)
  | [], e, m => some (e, m)
  | i :: is, e, m => match zSlot i e m with
    | some (e1, m1) => zSlots is e1 m1
    | none => none
def sZ (vs : List Nat) (b : MS) : MS := fun e m => match b e m with
  | some (.nx e1, m1) => match zSlots vs e1 m1 with
    | some (e2, m2) => some (.nx e2, m2)
    | none => none
  | r => r
theorem EnvR.setd {K : Frg} {G : Hp} {ρ : List Addr} {σ : L2.St} {e : Env'} {i : Nat} {v : V} {x : EV} (E : EnvR K G ρ σ e) (hi : σ[i]? = some (some v)) (h : EvR K G ρ v x) : EnvR K G ρ σ (e.set i (some x)) := by
  refine ⟨by rw [List.length_set]; exact E.len, fun j y hy => ?_⟩
  rw [List.getElem?_set] at hy
  split at hy
  · rename_i hij
    subst hij
    split at hy
    · cases hy; exact ⟨v, hi, h⟩
    · cases hy
  · exact E.get j y hy
theorem z_ok {K : Frg} {ρ : List Addr} {H : Hp} {σ : L2.St} : ∀ {vs : List Nat} {e e2 : Env'} {m m2 : Mem}, RelM K H ρ m → EnvR K (hid ρ m H) ρ σ e → zSlots vs e m = some (e2, m2) → RelM K H ρ m2 ∧ Gr ρ m H ρ m2 H ∧ EnvR K (hid ρ m2 H) ρ σ e2
  | [], _, _, _, _, R, E, h => by cases h; exact ⟨R, .refl, E⟩
  | i :: is, e, e2, m, m2, R, E, h => by
    unfold zSlots at h
    split at h
    case h_2 => cases h
    rename_i e1 m1 h1
    unfold zSlot at h1
    split at h1
    · rename_i p hp
      split at h1
      case h_2 => cases h1
      rename_i x hx
      cases h1
      obtain ⟨v, v1, v2⟩ := E.get i _ hp
      obtain ⟨R1, g1⟩ := R.gone p
      have d := gone_dt R v2 hx
      obtain ⟨R2, g2, E2⟩ := z_ok R1 ((E.gr g1).setd v1 (x := .d x) d) h
      exact ⟨R2, g1.trans g2, E2⟩
    · cases h1
      exact z_ok R E h
theorem q_z {X : Cx} {st : Stmt} {b : MS} {vs : List Nat} (h : PS X st (rs X.K b)) : PS X st (rs X.K (sZ vs b)) := PS.imp h fun D σ H ⟨ρ, e, m, R, E, o, m', hr, k⟩ => by
  unfold sZ at hr
  split at hr
  · rename_i e1 m1 h1
    split at hr
    case h_2 => cases hr
    rename_i e2 m2 h2
    cases hr
    refine ⟨ρ, e, m, R, E, .nx e1, m1, h1, fun σ' H' ρ' g R' E' => ?_⟩
    obtain ⟨R2, g2, E2⟩ := z_ok R' E' h2
    exact k σ' H' ρ' (g.trans g2) R2 E2
  · exact ⟨ρ, e, m, R, E, o, m', hr, k⟩

/-! ### new things as places of the memory -/
def eDctL : ME := fun _ m => some (.l m.length, m ++ [.dct []])
theorem q_dctL {X : Cx} {pos : Pos} : PE X (.Dict [] [] pos) (rd X.K eDctL) := PE.imp pe_dnewK fun σ H Q ⟨ρ, e, m, R, E, r, m', hr, k⟩ => by
  cases hr
  intro p hp
  obtain ⟨R1, g1⟩ := R.push (o := .dct []) (u := .dK []) hp ⟨[], upd_same, .nil⟩
  refine k _ _ (ρ ++ [p]) g1 R1 ⟨p, ?_, rfl⟩
  rw [← R.len, List.getElem?_append_right (Nat.le_refl _), Nat.sub_self]
  rfl
def eListL (f : ME) : ME := fun e m => match f e m with
  | some (x, m1) => match vw m1 x with
    | some (.list ds) => some (.l m1.length, m1 ++ [.lst ds])
    | some (.tuple ds) => some (.l m1.length, m1 ++ [.lst ds])
    | _ => none
  | none => none
theorem q_listL {X : Cx} {p pos : Pos} {a : Expr} {f : ME} (hg : Gl X "list") (hm : X.mg "list" = none) (ha : PE X a (rd X.K f)) (he : starEach (a :: []) X.env = (false, eval a X.env) :: starEach [] X.env := by rfl) (hpl : (backTo pos (starEach [] X.env)).any (·.1) = false := by rfl) :
    PE X (.Call (.Name "list" p) [a] [] pos) (rd X.K (eListL f)) :=
  PE.imp (pe_callTy call_list_of hg hm (by decide +kernel) (pa_cons ha pa_nil he) (by decide) (by decide) he hpl) fun σ H Q ⟨ρ, e, m, R, E, r, m', hr, k⟩ => by
    unfold eListL at hr
    split at hr
    case h_2 => cases hr
    rename_i x m1 h1
    refine rd_mk R E h1 fun v H1 ρ1 g1 R1 E1 r1 => ?_
    have fin : ∀ (ds : List PyData) (ys : List V) (l : Addr), DtA X.K (hid ρ1 m1 H1) ys ds → H1 l = none → some (EV.l m1.length, m1 ++ [MO.lst ds]) = some (r, m') → Q (.ref l) (upd H1 l (.lst ys)) := by
      intro ds ys l hd hl e
      cases e
      have hs := hid_app (o := .lst ds) (u := .lst ys) R1.len hl
      obtain ⟨R2, g2⟩ := R1.push (o := .lst ds) (u := .lst ys) hl ⟨ys, upd_same, DtA.mono hs _ hd⟩
      refine k _ _ (ρ1 ++ [l]) (g1.trans g2) R2 ⟨l, ?_, rfl⟩
      rw [← R1.len, List.getElem?_append_right (Nat.le_refl _), Nat.sub_self]
      rfl
    split at hr
    · rename_i ds h2
      obtain ⟨b, ys, rfl, y1, y2⟩ := (vw_of R1 r1 h2).list hid_le
      exact ⟨b, ys, rfl, .inl (.inl (.inl y1)), fun l hl => fin ds ys l y2 hl hr⟩
    · rename_i ds h2
      obtain ⟨b, ys, rfl, y1, y2⟩ := (vw_of R1 r1 h2).tuple hid_le
      exact ⟨b, ys, rfl, .inr y1, fun l hl => fin ds ys l y2 hl hr⟩
    · cases hr
/-- list(range(n)) -/
def rgD (n : Nat) : List PyData := (List.range n).map fun i => .int (i : Nat)
def eLrg (f : ME) : ME := fun e m => match f e m with
  | some (.d (.int j), m1) => if 0 ≤ j ∧ j ≤ 16777216 then some (.d (.list (rgD j.toNat)), m1) else none
  | _ => none
theorem q_lrng {X : Cx} {p q pos pos2 : Pos} {a : Expr} {f : ME} (hc : X.calm = true) (hg : Gl X "list") (hm : X.mg "list" = none) (hg2 : Gl X "range") (hm2 : X.mg "range" = none) (ha : PE X a (rd X.K f)) (na : starEach [a] X.env = (false, eval a X.env) :: starEach [] X.env := by rfl)
    (na2 : starEach [.Call (.Name "range" q) [a] [] pos2] X.env = (false, eval (.Call (.Name "range" q) [a] [] pos2) X.env) :: starEach [] X.env := by rfl) :
    PE X (.Call (.Name "list" p) [.Call (.Name "range" q) [a] [] pos2] [] pos) (rd X.K (eLrg f)) :=
  PE.imp (pe_listRg hc hg hm (prg_1 hg2 hm2 ha na) na2) fun σ H Q ⟨ρ, e, m, R, E, r, m', hr, k⟩ => by
    unfold eLrg at hr
    split at hr
    case h_2 => cases hr
    rename_i j m1 h1
    split at hr
    case isFalse => cases hr
    rename_i hj
    cases hr
    refine rd_mk R E h1 fun v H1 ρ1 g1 R1 E1 r1 => ?_
    have r1' : Dt X.K (hid ρ1 m' H1) v (.int j) := r1
    cases r1'
    refine ⟨j, rfl, ⟨by omega, by omega, by omega, by omega, by omega⟩, fun l hl => ?_⟩
    obtain ⟨R2, g2, e2⟩ := R1.new (o := .lst (rgV 0 j)) hl
    refine k _ _ ρ1 (g1.trans g2) R2 (.lst e2 ?_)
    have key : ∀ (G : Hp) (is : List Nat), DtA X.K G (is.map fun i => V.int (0 + (i : Nat))) (is.map fun i => PyData.int (i : Nat)) := by
      intro G is
      induction is with
      | nil => exact .nil
      | cons i is ih =>
        rw [List.map_cons, List.map_cons, Int.zero_add]
        exact .cons (.int _) ih
    have := key (hid ρ1 m' (upd H1 l (.lst (rgV 0 j)))) (List.range (j - 0).toNat)
    have e3 : (List.range (j - 0).toNat).map (fun i => PyData.int (i : Nat)) = rgD j.toNat := by rw [Int.sub_zero]; rfl
    rw [e3] at this
    exact this
end DL
set_option Elab.async false
set_option linter.all false
set_option maxRecDepth 10000
set_option maxHeartbeats 4000000
/-! what must hold ahead, so that something holds behind -/
namespace DL
open PySem PySem.Spec PyProof.Rows L2
def oK {α : Type} (o : Option α) (Q : α → Prop) : Prop := match o with
  | some a => Q a
  | none => False
theorem oK_some {α : Type} {a : α} {Q : α → Prop} : oK (some a) Q ↔ Q a := Iff.rfl
theorem oK_none {α : Type} {Q : α → Prop} : oK none Q ↔ False := Iff.rfl
theorem oK_ite {α : Type} {c : Prop} [Decidable c] {a b : Option α} {Q : α → Prop} : oK (if c then a else b) Q ↔ if c then oK a Q else oK b Q := by split <;> rfl
theorem oK_if {α : Type} {c : Prop} [Decidable c] {a : α} {Q : α → Prop} : oK (if c then some a else none) Q ↔ c ∧ Q a := by
  by_cases h : c
  · simp [h, oK]
  · simp [h, oK]
theorem oK_imp {α : Type} {o : Option α} {P Q : α → Prop} (h : oK o P) (w : ∀ a, P a → Q a) : oK o Q := by
  cases o with
  | none => exact h
  | some a => exact w a h
def ifK (b : Bool) (A B : Prop) : Prop := if b = true then A else B
theorem ifK_t {A B : Prop} : ifK true A B ↔ A := Iff.rfl
theorem ifK_f {A B : Prop} : ifK false A B ↔ B := Iff.rfl
theorem ifK_of {b : Bool} {A B : Prop} (h : b = true → A) (g : b = false → B) : ifK b A B := by
  cases b
  · exact g rfl
  · exact h rfl
theorem ifK_congr {b c : Bool} {A B : Prop} (h : b = c) : ifK b A B = ifK c A B := by rw [h]
theorem oK_congr {α : Type} {o o' : Option α} {Q : α → Prop} (h : o = o') : oK o Q = oK o' Q := by rw [h]
@[irreducible] def wE (f : ME) (e : Env') (m : Mem) (Q : EV → Mem → Prop) : Prop := oK (f e m) fun p => Q p.1 p.2
@[irreducible] def wB (f : MB) (e : Env') (m : Mem) (Q : Bool → Mem → Prop) : Prop := oK (f e m) fun p => Q p.1 p.2
@[irreducible] def wA (f : MA) (e : Env') (m : Mem) (Q : List EV → Mem → Prop) : Prop := oK (f e m) fun p => Q p.1 p.2
@[irreducible] def wO (f : MO') (e : Env') (m : Mem) (Q : Option Int → Mem → Prop) : Prop := oK (f e m) fun p => Q p.1 p.2
@[irreducible] def wI (f : MIt) (e : Env') (m : Mem) (Q : List EV → (Mem → Prop) → Mem → Prop) : Prop := oK (f e m) fun p => Q p.1 p.2.1 p.2.2
@[irreducible] def wS (b : MS) (e : Env') (m : Mem) (Q : Out → Mem → Prop) : Prop := oK (b e m) fun p => Q p.1 p.2
@[irreducible] def wF (F : MF) (rs : List EV) (m : Mem) (Q : EV → Mem → Prop) : Prop := oK (F rs m) fun p => Q p.1 p.2
theorem wE_congr {f : ME} {e e' : Env'} {m m' : Mem} {Q : EV → Mem → Prop} (h : e = e') (h2 : m = m') : wE f e m Q = wE f e' m' Q := by rw [h, h2]
theorem wB_congr {f : MB} {e e' : Env'} {m m' : Mem} {Q : Bool → Mem → Prop} (h : e = e') (h2 : m = m') : wB f e m Q = wB f e' m' Q := by rw [h, h2]
theorem wA_congr {f : MA} {e e' : Env'} {m m' : Mem} {Q : List EV → Mem → Prop} (h : e = e') (h2 : m = m') : wA f e m Q = wA f e' m' Q := by rw [h, h2]
theorem wO_congr {f : MO'} {e e' : Env'} {m m' : Mem} {Q : Option Int → Mem → Prop} (h : e = e') (h2 : m = m') : wO f e m Q = wO f e' m' Q := by rw [h, h2]
theorem wI_congr {f : MIt} {e e' : Env'} {m m' : Mem} {Q : List EV → (Mem → Prop) → Mem → Prop} (h : e = e') (h2 : m = m') : wI f e m Q = wI f e' m' Q := by rw [h, h2]
theorem wS_congr {f : MS} {e e' : Env'} {m m' : Mem} {Q : Out → Mem → Prop} (h : e = e') (h2 : m = m') : wS f e m Q = wS f e' m' Q := by rw [h, h2]
theorem wF_congr {f : MF} {e e' : List EV} {m m' : Mem} {Q : EV → Mem → Prop} (h : e = e') (h2 : m = m') : wF f e m Q = wF f e' m' Q := by rw [h, h2]
section
variable {f g h : ME} {c d : MB} {fa ga : MA} {e : Env'} {m m1 : Mem} {Q P : EV → Mem → Prop} {QB : Bool → Mem → Prop} {QA : List EV → Mem → Prop} {QS PS' : Out → Mem → Prop} {b b' : MS} {F : MF} {rs : List EV}
theorem wE_imp (h : wE f e m P) (w : ∀ r m', P r m' → Q r m') : wE f e m Q := by unfold wE at h ⊢; exact oK_imp h fun p => w p.1 p.2
theorem wB_imp {PB : Bool → Mem → Prop} (h : wB c e m PB) (w : ∀ r m', PB r m' → QB r m') : wB c e m QB := by unfold wB at h ⊢; exact oK_imp h fun p => w p.1 p.2
theorem wI_imp {it : MIt} {PI QI : List EV → (Mem → Prop) → Mem → Prop} (h : wI it e m PI) (w : ∀ xs C m', PI xs C m' → QI xs C m') : wI it e m QI := by unfold wI at h ⊢; exact oK_imp h fun p => w p.1 p.2.1 p.2.2
theorem wF_imp (h : wF F rs m P) (w : ∀ r m', P r m' → Q r m') : wF F rs m Q := by unfold wF at h ⊢; exact oK_imp h fun p => w p.1 p.2
theorem wS_imp (h : wS b e m PS') (w : ∀ r m', PS' r m' → QS r m') : wS b e m QS := by unfold wS at h ⊢; exact oK_imp h fun p => w p.1 p.2
theorem wF_eq {r : EV} (h : F rs m = some (r, m1)) : wF F rs m Q ↔ Q r m1 := by unfold wF; rw [h]; rfl
theorem wF_of {r : EV} (h : F rs m = some (r, m1)) (q : Q r m1) : wF F rs m Q := (wF_eq h).mpr q
theorem wF_is (h : wF F rs m Q) : ∃ r m', F rs m = some (r, m') ∧ Q r m' := by
  unfold wF at h
  cases q : F rs m with
  | none => rw [q] at h; exact h.elim
  | some p => rw [q] at h; exact ⟨p.1, p.2, rfl, h⟩
theorem wS_is (h : wS b e m QS) : ∃ r m', b e m = some (r, m') ∧ QS r m' := by
  unfold wS at h
  cases q : b e m with
  | none => rw [q] at h; exact h.elim
  | some p => rw [q] at h; exact ⟨p.1, p.2, rfl, h⟩
theorem wE_var {i : Nat} : wE (eVar i) e m Q ↔ oK (e[i]?) fun o => oK o fun v => Q v m := by
  unfold wE eVar
  cases e[i]? with
  | none => rfl
  | some o => cases o <;> rfl
theorem wE_c {x : PyData} : wE (eC x) e m Q ↔ Q (.d x) m := by unfold wE eC; exact Iff.rfl
theorem wA_nil : wA aNil e m QA ↔ QA [] m := by unfold wA aNil; exact Iff.rfl
theorem wA_cons : wA (aCons f fa) e m QA ↔ wE f e m fun x m1 => wA fa e m1 fun xs m2 => QA (x :: xs) m2 := by
  unfold wA wE aCons
  cases f e m with
  | none => rfl
  | some p =>
    obtain ⟨x, m1⟩ := p
    show oK (match fa e m1 with | some (xs, m2) => some (x :: xs, m2) | none => none) _ ↔ oK (fa e m1) _
    cases fa e m1 <;> rfl
def oV (g : PyData → PyData → Option PyData) (m : Mem) (x y : EV) : Option PyData := match vw m x, vw m y with
  | some a, some b => g a b
  | _, _ => none
def oVF (g : PyData → PyData → Option PyData) (m : Mem) (x y : EV) : Option PyData := match vwF m x, vwF m y with
  | some a, some b => g a b
  | _, _ => none
theorem oV_d {g : PyData → PyData → Option PyData} {x y : PyData} : oV g m (.d x) (.d y) = g x y := rfl
theorem oVF_d {g : PyData → PyData → Option PyData} {x y : PyData} : oVF g m (.d x) (.d y) = g x y := rfl
theorem wE_bin {op : PyData → PyData → Option PyData} : wE (eBin op f g) e m Q ↔ wE f e m fun x m1 => wE g e m1 fun y m2 => oK (oV op m2 x y) fun z => Q (.d z) m2 := by
  unfold wE eBin oV
  cases f e m with
  | none => rfl
  | some p =>
    obtain ⟨x, m1⟩ := p
    simp only [oK]
    cases g e m1 with
    | none => rfl
    | some p =>
      obtain ⟨y, m2⟩ := p
      simp only
      cases vw m2 x with
      | none => rfl
      | some a =>
        cases vw m2 y with
        | none => rfl
        | some b =>
          simp only
          cases op a b <;> rfl
theorem wE_binF {op : PyData → PyData → Option PyData} : wE (eBinF op f g) e m Q ↔ wE f e m fun x m1 => wE g e m1 fun y m2 => oK (oVF op m2 x y) fun z => Q (.d z) m2 := by
  unfold wE eBinF oVF
  cases f e m with
  | none => rfl
  | some p =>
    obtain ⟨x, m1⟩ := p
    simp only [oK]
    cases g e m1 with
    | none => rfl
    | some p =>
      obtain ⟨y, m2⟩ := p
      simp only
      cases vwF m2 x with
      | none => rfl
      | some a =>
        cases vwF m2 y with
        | none => rfl
        | some b =>
          simp only
          cases op a b <;> rfl
theorem wE_cb {op : Mem → List EV → Option PyData} : wE (eCB op fa) e m Q ↔ wA fa e m fun xs m1 => oK (op m1 xs) fun z => Q (.d z) m1 := by
  unfold wE wA eCB
  cases fa e m with
  | none => rfl
  | some p =>
    obtain ⟨xs, m1⟩ := p
    simp only [oK]
    cases op m1 xs <;> rfl
theorem c1_d {op : PyData → Option PyData} {x : PyData} : c1 op m [.d x] = op x := rfl
theorem c1F_d {op : PyData → Option PyData} {x : PyData} : c1F op m [.d x] = op x := rfl
theorem c2_d {op : PyData → PyData → Option PyData} {x y : PyData} : c2 op m [.d x, .d y] = op x y := rfl
theorem c1_l {op : PyData → Option PyData} {i : Nat} : c1 op m [.l i] = (vw m (.l i)).bind op := by
  show (match vw m (.l i) with | some d => op d | none => none) = _
  cases vw m (.l i) <;> rfl
theorem oV_ld {op : PyData → PyData → Option PyData} {i : Nat} {y : PyData} : oV op m (.l i) (.d y) = (vw m (.l i)).bind fun a => op a y := by
  unfold oV
  cases vw m (.l i) <;> rfl
theorem oV_dl {op : PyData → PyData → Option PyData} {i : Nat} {y : PyData} : oV op m (.d y) (.l i) = (vw m (.l i)).bind fun a => op y a := by
  unfold oV
  show (match some y, vw m (.l i) with | some a, some b => op a b | _, _ => none) = _
  cases vw m (.l i) <;> rfl
theorem vwF_l {i : Nat} : vwF m (.l i) = vw m (.l i) := by rw [vwF]
theorem oVF_ld {op : PyData → PyData → Option PyData} {i : Nat} {y : PyData} : oVF op m (.l i) (.d y) = (vw m (.l i)).bind fun a => op a y := by
  unfold oVF
  rw [vwF_l]
  cases vw m (.l i) <;> rfl
def vwO : Option MO → Option PyData
  | some (.lst ds) => some (.list ds)
  | some (.dct kvs) => some (.dict (kvD kvs))
  | _ => none
theorem vw_l {i : Nat} : vw m (.l i) = vwO m[i]? := by
  show (match m[i]? with | some (.lst ds) => some (PyData.list ds) | some (.dct kvs) => some (.dict (kvD kvs)) | _ => none) = _
  cases m[i]? with
  | none => rfl
  | some o => cases o <;> rfl
theorem vwO_lst {ds : List PyData} : vwO (some (.lst ds)) = some (.list ds) := rfl
theorem vwO_dct {kvs : List (Key × PyData)} : vwO (some (.dct kvs)) = some (.dict (kvD kvs)) := rfl
def boolK (r : EV) (Q : Bool → Prop) : Prop := match r with
  | .d (.bool b) => Q b
  | _ => False
theorem boolK_congr {r r' : EV} {Q : Bool → Prop} (h : r = r') : boolK r Q = boolK r' Q := by rw [h]
theorem boolK_b {b : Bool} {Q : Bool → Prop} : boolK (.d (.bool b)) Q ↔ Q b := Iff.rfl
theorem wB_of : wB (bOf f) e m QB ↔ wE f e m fun r m1 => boolK r fun b => QB b m1 := by
  unfold wB wE bOf
  cases f e m with
  | none => rfl
  | some p =>
    obtain ⟨r, m1⟩ := p
    simp only [oK]
    cases r with
    | d x => cases x <;> rfl
    | _ => rfl
theorem wB_tru : wB (bTru f) e m QB ↔ wE f e m fun r m1 => oK (vw m1 r) fun d => oK (truD d) fun b => QB b m1 := by
  unfold wB wE bTru
  cases f e m with
  | none => rfl
  | some p =>
    obtain ⟨r, m1⟩ := p
    simp only [oK]
    cases vw m1 r with
    | none => rfl
    | some d =>
      simp only
      cases truD d <;> rfl
theorem wB_and : wB (bAnd c d) e m QB ↔ wB c e m fun k m1 => ifK k (wB d e m1 QB) (QB false m1) := by
  unfold wB bAnd
  cases c e m with
  | none => rfl
  | some p => obtain ⟨k, m1⟩ := p; cases k <;> simp [oK, ifK]
theorem wB_or : wB (bOr c d) e m QB ↔ wB c e m fun k m1 => ifK k (QB true m1) (wB d e m1 QB) := by
  unfold wB bOr
  cases c e m with
  | none => rfl
  | some p => obtain ⟨k, m1⟩ := p; cases k <;> simp [oK, ifK]
theorem wB_not : wB (bNot c) e m QB ↔ wB c e m fun k m1 => QB (!k) m1 := by
  unfold wB bNot
  cases c e m <;> rfl
theorem wB_yes : wB cYes e m QB ↔ QB true m := by unfold wB cYes; exact Iff.rfl
theorem wE_and : wE (eAnd f g) e m Q ↔ wE f e m fun r m1 => boolK r fun k => ifK k (wE g e m1 Q) (Q (.d (.bool false)) m1) := by
  unfold wE eAnd
  cases f e m with
  | none => rfl
  | some p =>
    obtain ⟨r, m1⟩ := p
    simp only [oK]
    cases r with
    | d x => cases x with
      | bool b => cases b <;> rfl
      | _ => rfl
    | _ => rfl
theorem wE_or : wE (eOr f g) e m Q ↔ wE f e m fun r m1 => boolK r fun k => ifK k (Q (.d (.bool true)) m1) (wE g e m1 Q) := by
  unfold wE eOr
  cases f e m with
  | none => rfl
  | some p =>
    obtain ⟨r, m1⟩ := p
    simp only [oK]
    cases r with
    | d x => cases x with
      | bool b => cases b <;> rfl
      | _ => rfl
    | _ => rfl
theorem wE_not : wE (eNot f) e m Q ↔ wE f e m fun r m1 => boolK r fun k => Q (.d (.bool !k)) m1 := by
  unfold wE eNot
  cases f e m with
  | none => rfl
  | some p =>
    obtain ⟨r, m1⟩ := p
    simp only [oK]
    cases r with
    | d x => cases x <;> rfl
    | _ => rfl
theorem wE_if : wE (eIf c f g) e m Q ↔ wB c e m fun k m1 => ifK k (wE f e m1 Q) (wE g e m1 Q) := by
  unfold wE wB eIf
  cases c e m with
  | none => rfl
  | some p => obtain ⟨k, m1⟩ := p; cases k <;> rfl
theorem wE_isN {n : Bool} : wE (eIsN n f) e m Q ↔ wE f e m fun r m1 => Q (.d (.bool (isnE n r))) m1 := by
  unfold wE eIsN
  cases f e m <;> rfl
theorem wE_is {t : String} : wE (eIs t f) e m Q ↔ wE f e m fun r m1 => oK (vw m1 r) fun d => oK (isT t d) fun b => Q (.d (.bool b)) m1 := by
  unfold wE eIs
  cases f e m with
  | none => rfl
  | some p =>
    obtain ⟨r, m1⟩ := p
    simp only [oK]
    cases vw m1 r with
    | none => rfl
    | some d => simp only; cases isT t d <;> rfl
theorem wE_is2 {t u : String} : wE (eIs2 t u f) e m Q ↔ wE f e m fun r m1 => oK (vw m1 r) fun d => oK (isT2 t u d) fun b => Q (.d (.bool b)) m1 := by
  unfold wE eIs2
  cases f e m with
  | none => rfl
  | some p =>
    obtain ⟨r, m1⟩ := p
    simp only [oK]
    cases vw m1 r with
    | none => rfl
    | some d => simp only; cases isT2 t u d <;> rfl
def bK (d : PyData) (Q : Bool → Prop) : Prop := match d with
  | .bool b => Q b
  | _ => False
theorem bK_congr {r r' : PyData} {Q : Bool → Prop} (h : r = r') : bK r Q = bK r' Q := by rw [h]
theorem bK_b {b : Bool} {Q : Bool → Prop} : bK (.bool b) Q ↔ Q b := Iff.rfl
theorem wE_chain {p q : PyData → PyData → Option PyData} : wE (eChain p q f g h) e m Q ↔ wE f e m fun x m1 => wE g e m1 fun y m2 => oK (oV p m2 x y) fun r => bK r fun k => ifK k (wE h e m2 fun z m3 => oK (oV q m3 y z) fun r => Q (.d r) m3) (Q (.d (.bool false)) m2) := by
  unfold wE eChain oV
  cases f e m with
  | none => rfl
  | some t =>
    obtain ⟨x, m1⟩ := t
    simp only [oK]
    cases g e m1 with
    | none => rfl
    | some t =>
      obtain ⟨y, m2⟩ := t
      simp only
      cases vw m2 x with
      | none => rfl
      | some a =>
        cases vw m2 y with
        | none => rfl
        | some b =>
          simp only
          cases p a b with
          | none => rfl
          | some r =>
            cases r with
            | bool k =>
              cases k with
              | false => rfl
              | true =>
                simp only [bK, ifK, if_true]
                cases h e m2 with
                | none => rfl
                | some t =>
                  obtain ⟨z, m3⟩ := t
                  simp only
                  cases vw m3 y with
                  | none => rfl
                  | some c =>
                    cases vw m3 z with
                    | none => rfl
                    | some d => simp only; cases q c d <;> rfl
            | _ => rfl
theorem wE_call : wE (eCall F fa) e m Q ↔ wA fa e m fun rs m1 => wF F rs m1 Q := by
  unfold wE wA eCall wF
  cases fa e m <;> rfl
theorem wE_lst : wE (eLst fa) e m Q ↔ wA fa e m fun xs m1 => oK (asD xs) fun ds => ds.length ≤ sizeLine ∧ Q (.d (.list ds)) m1 := by
  unfold wE wA eLst
  cases fa e m with
  | none => rfl
  | some p =>
    obtain ⟨xs, m1⟩ := p
    simp only [oK]
    cases asD xs with
    | none => rfl
    | some ds => simp only; by_cases h : ds.length ≤ sizeLine <;> simp [h]
theorem wE_tup : wE (eTup fa) e m Q ↔ wA fa e m fun xs m1 => oK (asD xs) fun ds => ds.length ≤ sizeLine ∧ Q (.d (.tuple ds)) m1 := by
  unfold wE wA eTup
  cases fa e m with
  | none => rfl
  | some p =>
    obtain ⟨xs, m1⟩ := p
    simp only [oK]
    cases asD xs with
    | none => rfl
    | some ds => simp only; by_cases h : ds.length ≤ sizeLine <;> simp [h]
theorem wE_tupT : wE (eTupT fa) e m Q ↔ wA fa e m fun xs m1 => xs.length ≤ sizeLine ∧ Q (.t xs) m1 := by
  unfold wE wA eTupT
  cases fa e m with
  | none => rfl
  | some p =>
    obtain ⟨xs, m1⟩ := p
    simp only [oK]
    by_cases h : xs.length ≤ sizeLine <;> simp [h]
theorem wE_lstL : wE (eLstL fa) e m Q ↔ wA fa e m fun xs m1 => oK (asD xs) fun ds => ds.length ≤ sizeLine ∧ Q (.l m1.length) (m1 ++ [.lst ds]) := by
  unfold wE wA eLstL
  cases fa e m with
  | none => rfl
  | some p =>
    obtain ⟨xs, m1⟩ := p
    simp only [oK]
    cases asD xs with
    | none => rfl
    | some ds => simp only; by_cases h : ds.length ≤ sizeLine <;> simp [h]
theorem wE_dct0 : wE eDct0 e m Q ↔ Q (.d (.dict [])) m := by unfold wE eDct0; exact Iff.rfl
theorem wE_dctL : wE eDctL e m Q ↔ Q (.l m.length) (m ++ [.dct []]) := by unfold wE eDctL; exact Iff.rfl
def seqK (o : Option PyData) (Q : List PyData → Prop) : Prop := match o with
  | some (.list ds) => Q ds
  | some (.tuple ds) => Q ds
  | _ => False
theorem seqK_congr {r r' : Option PyData} {Q : List PyData → Prop} (h : r = r') : seqK r Q = seqK r' Q := by rw [h]
theorem seqK_l {ds : List PyData} {Q : List PyData → Prop} : seqK (some (.list ds)) Q ↔ Q ds := Iff.rfl
theorem seqK_t {ds : List PyData} {Q : List PyData → Prop} : seqK (some (.tuple ds)) Q ↔ Q ds := Iff.rfl
theorem wE_listL : wE (eListL f) e m Q ↔ wE f e m fun x m1 => seqK (vw m1 x) fun ds => Q (.l m1.length) (m1 ++ [.lst ds]) := by
  unfold wE eListL
  cases f e m with
  | none => rfl
  | some p =>
    obtain ⟨x, m1⟩ := p
    simp only [oK]
    cases vw m1 x with
    | none => rfl
    | some d => cases d <;> rfl
def intK (r : EV) (Q : Int → Prop) : Prop := match r with
  | .d (.int b) => Q b
  | _ => False
theorem intK_congr {r r' : EV} {Q : Int → Prop} (h : r = r') : intK r Q = intK r' Q := by rw [h]
theorem intK_i {b : Int} {Q : Int → Prop} : intK (.d (.int b)) Q ↔ Q b := Iff.rfl
theorem wE_lrg : wE (eLrg f) e m Q ↔ wE f e m fun r m1 => intK r fun j => (0 ≤ j ∧ j ≤ 16777216) ∧ Q (.d (.list (rgD j.toNat))) m1 := by
  unfold wE eLrg
  cases f e m with
  | none => rfl
  | some p =>
    obtain ⟨r, m1⟩ := p
    simp only [oK]
    cases r with
    | d x =>
      cases x with
      | int j => simp only [intK]; by_cases h : 0 ≤ j ∧ j ≤ 16777216 <;> simp [h]
      | _ => rfl
    | _ => rfl
theorem wE_neg : wE (eNeg f) e m Q ↔ wE f e m fun r m1 => intK r fun j => Q (.d (.int (-j))) m1 := by
  unfold wE eNeg
  cases f e m with
  | none => rfl
  | some p =>
    obtain ⟨r, m1⟩ := p
    simp only [oK]
    cases r with
    | d x => cases x <;> rfl
    | _ => rfl
def datK (r : EV) (Q : PyData → Prop) : Prop := match r with
  | .d x => Q x
  | _ => False
theorem datK_congr {r r' : EV} {Q : PyData → Prop} (h : r = r') : datK r Q = datK r' Q := by rw [h]
theorem datK_d {x : PyData} {Q : PyData → Prop} : datK (.d x) Q ↔ Q x := Iff.rfl
end
end DL
set_option Elab.async false
set_option linter.all false
set_option maxRecDepth 10000
set_option maxHeartbeats 4000000
namespace DL
open PySem PySem.Spec PyProof.Rows L2
section
variable {QI : List EV → (Mem → Prop) → Mem → Prop} {f g h fv fo fi : ME} {c d : MB} {fa ga : MA} {e : Env'} {m m1 : Mem} {Q P : EV → Mem → Prop} {QB : Bool → Mem → Prop} {QA : List EV → Mem → Prop} {QS PS' : Out → Mem → Prop} {b b' : MS} {F : MF} {rs : List EV} {lo hi : MO'}
/-- the place that a value names -/
def plK (r : EV) (Q : Nat → Prop) : Prop := match r with
  | .l i => Q i
  | _ => False
theorem plK_congr {r r' : EV} {Q : Nat → Prop} (h : r = r') : plK r Q = plK r' Q := by rw [h]
theorem plK_l {i : Nat} {Q : Nat → Prop} : plK (.l i) Q ↔ Q i := Iff.rfl
def lstK (o : Option MO) (Q : List PyData → Prop) : Prop := match o with
  | some (.lst ds) => Q ds
  | _ => False
theorem lstK_congr {r r' : Option MO} {Q : List PyData → Prop} (h : r = r') : lstK r Q = lstK r' Q := by rw [h]
theorem lstK_l {ds : List PyData} {Q : List PyData → Prop} : lstK (some (.lst ds)) Q ↔ Q ds := Iff.rfl
def dctK (o : Option MO) (Q : List (Key × PyData) → Prop) : Prop := match o with
  | some (.dct ds) => Q ds
  | _ => False
theorem dctK_congr {r r' : Option MO} {Q : List (Key × PyData) → Prop} (h : r = r') : dctK r Q = dctK r' Q := by rw [h]
theorem dctK_l {ds : List (Key × PyData)} {Q : List (Key × PyData) → Prop} : dctK (some (.dct ds)) Q ↔ Q ds := Iff.rfl
theorem wE_app : wE (eApp f g) e m Q ↔ wE f e m fun r m1 => plK r fun i => lstK m1[i]? fun _ => wE g e m1 fun x m2 => datK x fun x => lstK m2[i]? fun ds => ds.length < sizeLine ∧ Q (.d .none) (m2.set i (.lst (ds ++ [x]))) := by
  unfold wE eApp
  cases f e m with
  | none => rfl
  | some p =>
    obtain ⟨r, m1⟩ := p
    simp only [oK]
    cases r with
    | l i =>
      simp only [plK]
      cases m1[i]? with
      | none => rfl
      | some o =>
        cases o with
        | lst ds0 =>
          simp only [lstK]
          cases g e m1 with
          | none => rfl
          | some p =>
            obtain ⟨x, m2⟩ := p
            cases x with
            | d x =>
              simp only [datK]
              cases m2[i]? with
              | none => rfl
              | some o =>
                cases o with
                | lst ds => simp only; by_cases h : ds.length < sizeLine <;> simp [h]
                | _ => rfl
            | _ => rfl
        | _ => rfl
    | _ => rfl
theorem wE_pop : wE (ePop f g) e m Q ↔ wE f e m fun r m1 => plK r fun i => lstK m1[i]? fun _ => wE g e m1 fun x m2 => intK x fun j => lstK m2[i]? fun ds => (0 ≤ j ∧ j < 2 ^ 63) ∧ oK ds[j.toNat]? fun x => Q (.d x) (m2.set i (.lst (ds.eraseIdx j.toNat))) := by
  unfold wE ePop
  cases f e m with
  | none => rfl
  | some p =>
    obtain ⟨r, m1⟩ := p
    simp only [oK]
    cases r with
    | l i =>
      simp only [plK]
      cases m1[i]? with
      | none => rfl
      | some o =>
        cases o with
        | lst ds0 =>
          simp only [lstK]
          cases g e m1 with
          | none => rfl
          | some p =>
            obtain ⟨x, m2⟩ := p
            cases x with
            | d x =>
              cases x with
              | int j =>
                simp only [intK]
                cases m2[i]? with
                | none => rfl
                | some o =>
                  cases o with
                  | lst ds =>
                    simp only
                    by_cases h : 0 ≤ j ∧ j < 2 ^ 63
                    · rw [if_pos h]
                      cases ds[j.toNat]? with
                      | none => exact ⟨fun z => z.elim, fun z => z.2.elim⟩
                      | some y => exact ⟨fun z => ⟨h, z⟩, fun z => z.2⟩
                    · rw [if_neg h]
                      exact ⟨fun z => z.elim, fun z => h z.1⟩
                  | _ => rfl
              | _ => rfl
            | _ => rfl
        | _ => rfl
    | _ => rfl
theorem wE_get : wE (eGet f g) e m Q ↔ wE f e m fun r m1 => plK r fun i => wE g e m1 fun x m2 => datK x fun x => dctK m2[i]? fun kvs => oK (keyOf x) fun k => oK (getP kvs k) fun d => Q (.d d) m2 := by
  unfold wE eGet
  cases f e m with
  | none => rfl
  | some p =>
    obtain ⟨r, m1⟩ := p
    simp only [oK]
    cases r with
    | l i =>
      simp only [plK]
      cases g e m1 with
      | none => rfl
      | some p =>
        obtain ⟨x, m2⟩ := p
        cases x with
        | d x =>
          simp only [datK]
          cases m2[i]? with
          | none => rfl
          | some o =>
            cases o with
            | dct kvs =>
              simp only [dctK]
              cases keyOf x with
              | none => rfl
              | some k => simp only; cases getP kvs k <;> rfl
            | _ => rfl
        | _ => rfl
    | _ => rfl
theorem wS_put : wS (sPut fv fo fi) e m QS ↔ wE fv e m fun x m1 => datK x fun x => wE fo e m1 fun r m2 => plK r fun i => wE fi e m2 fun y m3 => datK y fun y => dctK m3[i]? fun kvs => oK (keyOf y) fun k => kvs.length < sizeLine ∧ QS (.nx e) (m3.set i (.dct (putP kvs k x))) := by
  unfold wS wE sPut
  cases fv e m with
  | none => rfl
  | some p =>
    obtain ⟨x, m1⟩ := p
    simp only [oK]
    cases x with
    | d x =>
      simp only [datK]
      cases fo e m1 with
      | none => rfl
      | some p =>
        obtain ⟨r, m2⟩ := p
        cases r with
        | l i =>
          simp only [plK]
          cases fi e m2 with
          | none => rfl
          | some p =>
            obtain ⟨y, m3⟩ := p
            cases y with
            | d y =>
              simp only
              cases m3[i]? with
              | none => rfl
              | some o =>
                cases o with
                | dct kvs =>
                  simp only [dctK]
                  cases keyOf y with
                  | none => rfl
                  | some k => simp only; by_cases h : kvs.length < sizeLine <;> simp [h]
                | _ => rfl
            | _ => rfl
        | _ => rfl
    | _ => rfl
theorem wS_setIx : wS (sSetIx fv fo fi) e m QS ↔ wE fv e m fun x m1 => datK x fun x => wE fo e m1 fun r m2 => plK r fun i => wE fi e m2 fun y m3 => intK y fun y => lstK m3[i]? fun ds => oK (ixN ds.length y) fun j => QS (.nx e) (m3.set i (.lst (ds.set j x))) := by
  unfold wS wE sSetIx
  cases fv e m with
  | none => rfl
  | some p =>
    obtain ⟨x, m1⟩ := p
    simp only [oK]
    cases x with
    | d x =>
      simp only [datK]
      cases fo e m1 with
      | none => rfl
      | some p =>
        obtain ⟨r, m2⟩ := p
        cases r with
        | l i =>
          simp only [plK]
          cases fi e m2 with
          | none => rfl
          | some p =>
            obtain ⟨y, m3⟩ := p
            cases y with
            | d y =>
              cases y with
              | int y =>
                simp only [intK]
                cases m3[i]? with
                | none => rfl
                | some o =>
                  cases o with
                  | lst ds => simp only [lstK]; cases ixN ds.length y <;> rfl
                  | _ => rfl
              | _ => rfl
            | _ => rfl
        | _ => rfl
    | _ => rfl
theorem wO_no {QO : Option Int → Mem → Prop} : wO oNo e m QO ↔ QO none m := by unfold wO oNo; exact Iff.rfl
theorem wO_yes {QO : Option Int → Mem → Prop} : wO (oYes f) e m QO ↔ wE f e m fun r m1 => intK r fun j => QO (some j) m1 := by
  unfold wO wE oYes
  cases f e m with
  | none => rfl
  | some p =>
    obtain ⟨r, m1⟩ := p
    simp only [oK]
    cases r with
    | d x => cases x <;> rfl
    | _ => rfl
theorem wE_sl : wE (eSl f lo hi) e m Q ↔ wE f e m fun x m1 => wO lo e m1 fun l m2 => wO hi e m2 fun u m3 => oK (vw m3 x) fun d => oK (slD d l u) fun z => Q (.d z) m3 := by
  unfold wE wO eSl
  cases f e m with
  | none => rfl
  | some p =>
    obtain ⟨x, m1⟩ := p
    simp only [oK]
    cases lo e m1 with
    | none => rfl
    | some p =>
      obtain ⟨l, m2⟩ := p
      simp only
      cases hi e m2 with
      | none => rfl
      | some p =>
        obtain ⟨u, m3⟩ := p
        simp only
        cases vw m3 x with
        | none => rfl
        | some d => simp only; cases slD d l u <;> rfl
theorem wE_rev : wE (eRev f) e m Q ↔ wE f e m fun x m1 => oK (vw m1 x) fun d => oK (revD d) fun z => Q (.d z) m1 := by
  unfold wE eRev
  cases f e m with
  | none => rfl
  | some p =>
    obtain ⟨x, m1⟩ := p
    simp only [oK]
    cases vw m1 x with
    | none => rfl
    | some d => simp only; cases revD d <;> rfl
theorem vw_d {x : PyData} : vw m (.d x) = some x := rfl
/-- new lists as data -/
def frK (n : Nat) (r : EV) (m1 : Mem) (Q : EV → Mem → Prop) : Prop := match r with
  | .d x => Q (.d x) m1
  | .l i => (i = n ∧ m1.length = n + 1) ∧ oK (vw m1 (.l i)) fun x => Q (.d x) (m1.take n)
  | _ => False
theorem frK_congr {n : Nat} {o o' : EV} {m m' : Mem} {Q : EV → Mem → Prop} (h : o = o') (h2 : m = m') : frK n o m Q = frK n o' m' Q := by rw [h, h2]
theorem frK_d {n : Nat} {x : PyData} : frK n (.d x) m1 Q ↔ Q (.d x) m1 := Iff.rfl
theorem wE_frz : wE (eFrz f) e m Q ↔ wE f e m fun r m1 => frK m.length r m1 Q := by
  unfold wE eFrz
  cases f e m with
  | none => rfl
  | some p =>
    obtain ⟨r, m1⟩ := p
    simp only [oK]
    cases r with
    | d x => rfl
    | l i =>
      simp only [frK]
      by_cases h : i = m.length ∧ m1.length = m.length + 1
      · rw [if_pos h]
        cases vw m1 (.l i) with
        | none => simp [oK]
        | some x => simp [oK, h]
      · simp [h]
    | _ => rfl
def frO (n : Nat) (r : EV) (m1 : Mem) (Q : EV → Mem → Prop) : Prop := match r with
  | .o c fs => Q (.o c fs) m1
  | .l i => (i = n ∧ m1.length = n + 1) ∧ (match m1[i]? with
    | some (.ins c fs) => Q (.o c fs) (m1.take n)
    | _ => False)
  | _ => False
theorem wE_frzO : wE (eFrzO f) e m Q ↔ wE f e m fun r m1 => frO m.length r m1 Q := by
  unfold wE eFrzO
  cases f e m with
  | none => rfl
  | some p =>
    obtain ⟨r, m1⟩ := p
    simp only [oK]
    cases r with
    | o c fs => rfl
    | l i =>
      simp only [frO]
      by_cases h : i = m.length ∧ m1.length = m.length + 1
      · rw [if_pos h]
        cases m1[i]? with
        | none => simp
        | some o => cases o <;> simp [h]
      · simp [h]
    | _ => rfl
theorem wE_fld {c' f' : Str} : wE (eFld c' f' f) e m Q ↔ wE f e m fun x m1 => oK (insOf c' m1 x) fun fs => oK (fdGet f' fs) fun d => Q (.d d) m1 := by
  unfold wE eFld
  cases f e m with
  | none => rfl
  | some p =>
    obtain ⟨x, m1⟩ := p
    simp only [oK]
    cases insOf c' m1 x with
    | none => rfl
    | some fs => simp only; cases fdGet f' fs <;> rfl
def insK' (o : Option MO) (Q : Str → List (Str × PyData) → Prop) : Prop := match o with
  | some (.ins c fs) => Q c fs
  | _ => False
theorem insK_congr {r r' : Option MO} {Q : Str → List (Str × PyData) → Prop} (h : r = r') : insK' r Q = insK' r' Q := by rw [h]
theorem insK_i {c' : Str} {fs : List (Str × PyData)} {Q : Str → List (Str × PyData) → Prop} : insK' (some (.ins c' fs)) Q ↔ Q c' fs := Iff.rfl
theorem wS_fldP {c' f' : Str} : wS (sFldP c' f' fv fo) e m QS ↔ wE fv e m fun y m1 => datK y fun y => wE fo e m1 fun r m2 => plK r fun i => insK' m2[i]? fun k fs => (k = c' ∧ fs.length < 1000) ∧ QS (.nx e) (m2.set i (.ins c' (fdPut f' y fs))) := by
  unfold wS wE sFldP
  cases fv e m with
  | none => rfl
  | some p =>
    obtain ⟨y, m1⟩ := p
    simp only [oK]
    cases y with
    | d y =>
      simp only [datK]
      cases fo e m1 with
      | none => rfl
      | some p =>
        obtain ⟨r, m2⟩ := p
        cases r with
        | l i =>
          simp only [plK]
          cases m2[i]? with
          | none => rfl
          | some o =>
            cases o with
            | ins k fs => simp only [insK']; by_cases h : k = c' ∧ fs.length < 1000 <;> simp [h]
            | _ => rfl
        | _ => rfl
    | _ => rfl
theorem wE_make {c' : Str} : wE (eMake c' F fa) e m Q ↔ wA fa e m fun rs m1 => wF F (.l m1.length :: rs) (m1 ++ [.ins c' []]) fun r m2 => r = .d .none ∧ Q (.l m1.length) m2 := by
  unfold wE wA wF eMake
  cases fa e m with
  | none => rfl
  | some p =>
    obtain ⟨rs, m1⟩ := p
    simp only [oK]
    cases F (.l m1.length :: rs) (m1 ++ [.ins c' []]) with
    | none => rfl
    | some q =>
      obtain ⟨r, m2⟩ := q
      cases r with
      | d x => cases x <;> simp
      | _ => simp
theorem wE_meth {c' n' : Str} : wE (eMeth c' n' F f fa) e m Q ↔ wE f e m fun x m1 => oK (insOf c' m1 x) fun fs => fdGet n' fs = none ∧ wA fa e m1 fun rs m2 => wF F (x :: rs) m2 Q := by
  unfold wE wA wF eMeth
  cases f e m with
  | none => rfl
  | some p =>
    obtain ⟨x, m1⟩ := p
    simp only [oK]
    cases insOf c' m1 x with
    | none => rfl
    | some fs =>
      simp only
      by_cases h : fdGet n' fs = none
      · rw [if_pos h]
        simp only [h, true_and]
        cases fa e m1 <;> rfl
      · simp [h]

/-! ### statements -/
def thenK (o : Out) (m1 : Mem) (c : MS) (Q : Out → Mem → Prop) : Prop := match o with
  | .nx e1 => wS c e1 m1 Q
  | o => Q o m1
theorem thenK_congr {o o' : Out} {m m' : Mem} {b : MS} {Q : Out → Mem → Prop} (h : o = o') (h2 : m = m') : thenK o m b Q = thenK o' m' b Q := by rw [h, h2]
theorem thenK_nx {e1 : Env'} : thenK (.nx e1) m1 b QS ↔ wS b e1 m1 QS := Iff.rfl
theorem thenK_rt {r : EV} : thenK (.rt r) m1 b QS ↔ QS (.rt r) m1 := Iff.rfl
theorem thenK_bk {e1 : Env'} : thenK (.bk e1) m1 b QS ↔ QS (.bk e1) m1 := Iff.rfl
theorem thenK_ct {e1 : Env'} : thenK (.ct e1) m1 b QS ↔ QS (.ct e1) m1 := Iff.rfl
theorem wS_seq : wS (sSeq b b') e m QS ↔ wS b e m fun o m1 => thenK o m1 b' QS := by
  unfold wS sSeq
  cases b e m with
  | none => rfl
  | some p =>
    obtain ⟨o, m1⟩ := p
    cases o with
    | nx e1 =>
      show oK (b' e1 m1) _ ↔ wS b' e1 m1 QS
      unfold wS
      rfl
    | _ => rfl
/-- one statement, then the rest -/
theorem seq_step (h : ∀ K : Out → Mem → Prop, (∀ e1 m1, wS b' e1 m1 QS → K (.nx e1) m1) → (∀ r m1, QS (.rt r) m1 → K (.rt r) m1) → (∀ e1 m1, QS (.bk e1) m1 → K (.bk e1) m1) → (∀ e1 m1, QS (.ct e1) m1 → K (.ct e1) m1) → wS b e m K) : wS (sSeq b b') e m QS :=
  wS_seq.mpr (h _ (fun _ _ z => z) (fun _ _ z => z) (fun _ _ z => z) fun _ _ z => z)
theorem wS_nil : wS sNil e m QS ↔ QS (.nx e) m := by unfold wS sNil; exact Iff.rfl
theorem wS_never : wS sNever e m QS ↔ False := by unfold wS sNever; exact Iff.rfl
theorem wS_set {i : Nat} : wS (sSet i f) e m QS ↔ wE f e m fun v m1 => QS (.nx (e.set i (some v))) m1 := by
  unfold wS wE sSet
  cases f e m <;> rfl
theorem wS_ex : wS (sEx f) e m QS ↔ wE f e m fun v m1 => QS (.nx e) m1 := by
  unfold wS wE sEx
  cases f e m <;> rfl
theorem wS_ret : wS (sRet f) e m QS ↔ wE f e m fun v m1 => QS (.rt v) m1 := by
  unfold wS wE sRet
  cases f e m <;> rfl
theorem wS_retN : wS sRetN e m QS ↔ QS (.rt (.d .none)) m := by unfold wS sRetN; exact Iff.rfl
theorem wS_if : wS (sIf c b b') e m QS ↔ wB c e m fun k m1 => ifK k (wS b e m1 QS) (wS b' e m1 QS) := by
  unfold wS wB sIf
  cases c e m with
  | none => rfl
  | some p => obtain ⟨k, m1⟩ := p; cases k <;> rfl
theorem wS_bk : wS sBk e m QS ↔ QS (.bk e) m := by unfold wS sBk; exact Iff.rfl
theorem wS_ct : wS sCt e m QS ↔ QS (.ct e) m := by unfold wS sCt; exact Iff.rfl
theorem wS_w {vs : List Nat} : wS (sW vs b) e m QS ↔ wS b e m fun o m1 => QS (wipeO vs o) m1 := by
  unfold wS sW
  cases b e m <;> rfl
theorem wipeO_nx {vs : List Nat} {e1 : Env'} : wipeO vs (.nx e1) = .nx (wipeE e1 vs) := rfl
theorem wipeO_bk {vs : List Nat} {e1 : Env'} : wipeO vs (.bk e1) = .bk (wipeE e1 vs) := rfl
theorem wipeO_ct {vs : List Nat} {e1 : Env'} : wipeO vs (.ct e1) = .ct (wipeE e1 vs) := rfl
theorem wipeO_rt {vs : List Nat} {r : EV} : wipeO vs (.rt r) = .rt r := rfl
theorem wipeE_nil : wipeE e [] = e := rfl
theorem wipeE_cons {v : Nat} {vs : List Nat} : wipeE e (v :: vs) = (wipeE e vs).set v none := rfl
def zK (vs : List Nat) (o : Out) (m1 : Mem) (Q : Out → Mem → Prop) : Prop := match o with
  | .nx e1 => oK (zSlots vs e1 m1) fun p => Q (.nx p.1) p.2
  | o => Q o m1
theorem zK_congr {vs : List Nat} {o o' : Out} {m m' : Mem} {Q : Out → Mem → Prop} (h : o = o') (h2 : m = m') : zK vs o m Q = zK vs o' m' Q := by rw [h, h2]
theorem zK_nx {vs : List Nat} {e1 : Env'} : zK vs (.nx e1) m1 QS ↔ oK (zSlots vs e1 m1) fun p => QS (.nx p.1) p.2 := Iff.rfl
theorem zK_rt {vs : List Nat} {r : EV} : zK vs (.rt r) m1 QS ↔ QS (.rt r) m1 := Iff.rfl
theorem wS_z {vs : List Nat} : wS (sZ vs b) e m QS ↔ wS b e m fun o m1 => zK vs o m1 QS := by
  unfold wS sZ
  cases b e m with
  | none => rfl
  | some p =>
    obtain ⟨o, m1⟩ := p
    cases o with
    | nx e1 =>
      simp only [oK, zK]
      cases zSlots vs e1 m1 <;> rfl
    | _ => rfl
def zTo (i : Nat) (o : Option (Option EV)) (e : Env') (m : Mem) : Option (Env' × Mem) := match o with
  | some (some (.l p)) => match vw m (.l p) with
    | some x => some (e.set i (some (.d x)), m.set p .gone)
    | none => none
  | _ => some (e, m)
theorem zSlots_nil : zSlots [] e m = some (e, m) := rfl
theorem zSlots_cons {i : Nat} {is : List Nat} : zSlots (i :: is) e m = (zTo i e[i]? e m).bind fun p => zSlots is p.1 p.2 := by
  have h : zSlot i e m = zTo i e[i]? e m := rfl
  rw [zSlots, h]
  cases zTo i e[i]? e m <;> rfl
theorem zTo_l {i p : Nat} : zTo i (some (some (.l p))) e m = (vw m (.l p)).map fun x => (e.set i (some (.d x)), m.set p .gone) := by
  show (match vw m (.l p) with | some x => some (e.set i (some (.d x)), m.set p .gone) | none => none) = _
  cases vw m (.l p) <;> rfl
theorem zTo_d {i : Nat} {x : PyData} : zTo i (some (some (.d x))) e m = some (e, m) := rfl
theorem zTo_n {i : Nat} : zTo i (some none) e m = some (e, m) := rfl
def asgK (o : Option Env') (m1 : Mem) (Q : Out → Mem → Prop) : Prop := match o with
  | some e1 => Q (.nx e1) m1
  | none => False
theorem asgK_congr {o o' : Option Env'} {m m' : Mem} {Q : Out → Mem → Prop} (h : o = o') (h2 : m = m') : asgK o m Q = asgK o' m' Q := by rw [h, h2]
theorem asgK_s {e1 : Env'} : asgK (some e1) m1 QS ↔ QS (.nx e1) m1 := Iff.rfl
theorem wS_asg {t : MG} : wS (sAsg f t) e m QS ↔ wE f e m fun v m1 => asgK (t v e m1) m1 QS := by
  unfold wS wE sAsg
  cases f e m with
  | none => rfl
  | some p =>
    obtain ⟨v, m1⟩ := p
    simp only [oK]
    cases t v e m1 <;> rfl
theorem gNm_is {i : Nat} {x : EV} : gNm i x e m = some (e.set i (some x)) := rfl
theorem gTpE_d {is : List Nat} {ds : List PyData} : gTpE is (.d (.tuple ds)) e m = if ds.length = is.length then some (setAllE e is (ds.map .d)) else none := rfl
theorem gTpE_t {is : List Nat} {xs : List EV} : gTpE is (.t xs) e m = if xs.length = is.length then some (setAllE e is xs) else none := rfl
theorem setAllE_nil {is : List Nat} : setAllE e is [] = e := by cases is <;> rfl
theorem setAllE_cons {i : Nat} {is : List Nat} {x : EV} {xs : List EV} : setAllE e (i :: is) (x :: xs) = setAllE (e.set i (some x)) is xs := rfl
def augK (o : Option (Option EV)) (Q : Int → Prop) : Prop := match o with
  | some (some (.d (.int x))) => Q x
  | _ => False
theorem augK_congr {o o' : Option (Option EV)} {Q : Int → Prop} (h : o = o') : augK o Q = augK o' Q := by rw [h]
theorem augK_i {x : Int} {Q : Int → Prop} : augK (some (some (.d (.int x)))) Q ↔ Q x := Iff.rfl
theorem wS_aug {i : Nat} {p : Int → Int → Int} : wS (sAug i p f) e m QS ↔ augK e[i]? fun x => wE f e m fun r m1 => intK r fun y => QS (.nx (e.set i (some (.d (.int (p x y)))))) m1 := by
  unfold wS wE sAug
  cases e[i]? with
  | none => rfl
  | some o =>
    cases o with
    | none => rfl
    | some v =>
      cases v with
      | d x =>
        cases x with
        | int x =>
          simp only [augK]
          cases f e m with
          | none => rfl
          | some q =>
            obtain ⟨r, m1⟩ := q
            simp only [oK]
            cases r with
            | d y => cases y <;> rfl
            | _ => rfl
        | _ => rfl
      | _ => rfl
def l2K (xs : List EV) (Q : EV → EV → Prop) : Prop := match xs with
  | [x, y] => Q x y
  | _ => False
def l3K (xs : List EV) (Q : EV → EV → EV → Prop) : Prop := match xs with
  | [x, y, z] => Q x y z
  | _ => False
theorem l2K_congr {o o' : List EV} {Q : EV → EV → Prop} (h : o = o') : l2K o Q = l2K o' Q := by rw [h]
theorem l2K_i {x y : EV} {Q : EV → EV → Prop} : l2K [x, y] Q ↔ Q x y := Iff.rfl
theorem l3K_congr {o o' : List EV} {Q : EV → EV → EV → Prop} (h : o = o') : l3K o Q = l3K o' Q := by rw [h]
theorem l3K_i {x y z : EV} {Q : EV → EV → EV → Prop} : l3K [x, y, z] Q ↔ Q x y z := Iff.rfl
theorem wS_par {i j : Nat} : wS (sPar i j fa) e m QS ↔ wA fa e m fun xs m1 => l2K xs fun x y => QS (.nx ((e.set i (some x)).set j (some y))) m1 := by
  unfold wS wA sPar
  cases fa e m with
  | none => rfl
  | some p =>
    obtain ⟨xs, m1⟩ := p
    simp only [oK]
    match xs with
    | [] => rfl
    | [_] => rfl
    | [_, _] => rfl
    | _ :: _ :: _ :: _ => rfl
theorem wS_par3 {i j l : Nat} : wS (sPar3 i j l fa) e m QS ↔ wA fa e m fun xs m1 => l3K xs fun x y z => QS (.nx (((e.set i (some x)).set j (some y)).set l (some z))) m1 := by
  unfold wS wA sPar3
  cases fa e m with
  | none => rfl
  | some p =>
    obtain ⟨xs, m1⟩ := p
    simp only [oK]
    match xs with
    | [] => rfl
    | [_] => rfl
    | [_, _] => rfl
    | [_, _, _] => rfl
    | _ :: _ :: _ :: _ :: _ => rfl

/-! ### a def -/
def retD (n : Nat) (o : Out) (m1 : Mem) (Q : EV → Mem → Prop) : Prop := match o with
  | .nx _ => Q (.d .none) (m1.take n)
  | .rt (.d x) => Q (.d x) (m1.take n)
  | .rt (.o c fs) => Q (.o c fs) (m1.take n)
  | .rt (.l i) => ¬ i < n ∧ n ≤ m1.length ∧ oK (vw m1 (.l i)) fun x => Q (.d x) (m1.take n)
  | _ => False
theorem retD_congr {n : Nat} {o o' : Out} {m m' : Mem} {Q : EV → Mem → Prop} (h : o = o') (h2 : m = m') : retD n o m Q = retD n o' m' Q := by rw [h, h2]
theorem retD_nx {n : Nat} {e1 : Env'} : retD n (.nx e1) m1 Q ↔ Q (.d .none) (m1.take n) := Iff.rfl
theorem retD_d {n : Nat} {x : PyData} : retD n (.rt (.d x)) m1 Q ↔ Q (.d x) (m1.take n) := Iff.rfl
theorem retD_o {n : Nat} {c' : Str} {fs : List (Str × PyData)} : retD n (.rt (.o c' fs)) m1 Q ↔ Q (.o c' fs) (m1.take n) := Iff.rfl
theorem retD_l {n i : Nat} : retD n (.rt (.l i)) m1 Q ↔ ¬ i < n ∧ n ≤ m1.length ∧ oK (vw m1 (.l i)) fun x => Q (.d x) (m1.take n) := Iff.rfl
theorem wF_fnD {n N : Nat} (hn : rs.length = n) (h : wS b (rs.map some ++ List.replicate (N - n) none) m fun o m1 => retD m.length o m1 Q) : wF (fnD n N b) rs m Q := by
  unfold wF fnD frzF fnM
  rw [if_pos hn]
  unfold wS at h
  cases q : b (rs.map some ++ List.replicate (N - n) none) m with
  | none => rw [q] at h; exact h.elim
  | some p =>
    rw [q] at h
    obtain ⟨o, m1⟩ := p
    simp only [oK] at h
    cases o with
    | nx e1 => exact h
    | bk e1 => exact h.elim
    | ct e1 => exact h.elim
    | rt r =>
      cases r with
      | d x => exact h
      | o c fs => exact h
      | f ds => exact h.elim
      | t xs => exact h.elim
      | l i =>
        obtain ⟨h1, h2, h3⟩ := h
        have hl : (m1.take m.length).length = m.length := by rw [List.length_take]; omega
        simp only [fnOut]
        rw [if_neg h1]
        rw [vw_l] at h3
        cases r : m1[i]? with
        | none => rw [r] at h3; exact h3.elim
        | some o =>
          rw [r] at h3
          have g1 : (m1.take m.length ++ [o])[m.length]? = some o := by
            rw [List.getElem?_append_right (by omega), hl, Nat.sub_self]; rfl
          have g2 : (m1.take m.length ++ [o]).take m.length = m1.take m.length := by
            rw [List.take_append_of_le_length (by omega), List.take_take, Nat.min_self]
          cases o with
          | lst ds =>
            simp only [Nat.lt_irrefl, if_false, List.length_append, hl, List.length_singleton, and_self, if_true, g1, g2]
            exact h3
          | dct kvs =>
            simp only [Nat.lt_irrefl, if_false, List.length_append, hl, List.length_singleton, and_self, if_true, g1, g2]
            exact h3
          | gone => exact h3.elim
          | ins c fs => exact h3.elim

/-! ### loops -/
theorem wS_for {it : MIt} {t : MG} : wS (sFor it t b) e m QS ↔ wI it e m fun xs C m1 => wS (forL t b C xs) e m1 QS := by
  unfold wS wI sFor
  cases it e m <;> rfl
theorem wS_unf (h : wS b e m QS) : oK (b e m) fun p => QS p.1 p.2 := by unfold wS at h; exact h
/-- a loop by what holds at each turn -/
theorem for_by {t : MG} {C : Mem → Prop} (J : List EV → Env' → Mem → Prop) (step : ∀ x xs e m, J (x :: xs) e m → C m ∧ oK (t x e m) fun e1 => wS b e1 m fun o m2 => match o with
    | .nx e2 => J xs e2 m2
    | .ct e2 => J xs e2 m2
    | .bk e2 => QS (.nx e2) m2
    | .rt r => QS (.rt r) m2) (done : ∀ e m, J [] e m → C m ∧ QS (.nx e) m) : ∀ (xs : List EV) (e : Env') (m : Mem), J xs e m → wS (forL t b C xs) e m QS
  | [], e, m, h => by
    obtain ⟨h1, h2⟩ := done e m h
    unfold wS forL
    rw [if_pos h1]
    exact h2
  | x :: xs, e, m, h => by
    obtain ⟨h1, h2⟩ := step x xs e m h
    unfold wS forL
    rw [if_pos h1]
    cases q : t x e m with
    | none => rw [q] at h2; exact h2.elim
    | some e1 =>
      rw [q] at h2
      simp only [oK] at h2
      cases q2 : b e1 m with
      | none => unfold wS at h2; rw [q2] at h2; exact h2.elim
      | some p =>
        unfold wS at h2
        rw [q2] at h2
        obtain ⟨o, m2⟩ := p
        simp only [oK] at h2
        simp only [q2]
        cases o with
        | nx e2 => exact wS_unf (for_by J step done xs e2 m2 h2)
        | ct e2 => exact wS_unf (for_by J step done xs e2 m2 h2)
        | bk e2 => exact h2
        | rt r => exact h2
theorem wI_any : wI (iAny f) e m QI ↔ wE f e m fun r m1 => (match r with
    | .d (.list ds) => QI (ds.map EV.d) noC m1
    | .d (.tuple ds) => QI (ds.map EV.d) noC m1
    | .d (.str s) => QI (s.cps.toList.map fun c => EV.d (.str ⟨#[c]⟩)) noC m1
    | .l j => lstK m1[j]? fun ds => QI (ds.map EV.d) (isC j ds) m1
    | _ => False) := by
  unfold wI wE iAny
  cases f e m with
  | none => rfl
  | some p =>
    obtain ⟨r, m1⟩ := p
    simp only [oK]
    cases r with
    | d x => cases x <;> rfl
    | l j =>
      simp only
      cases m1[j]? with
      | none => rfl
      | some o => cases o <;> rfl
    | _ => rfl
theorem wI_rg1 : wI (iRg1 f) e m QI ↔ wE f e m fun r m1 => intK r fun j => (-(2 ^ 62) ≤ j ∧ j < 2 ^ 62) ∧ QI (rgL 0 j.toNat) noC m1 := by
  unfold wI wE iRg1
  cases f e m with
  | none => rfl
  | some p =>
    obtain ⟨r, m1⟩ := p
    simp only [oK]
    cases r with
    | d x =>
      cases x with
      | int j =>
        simp only [intK]
        by_cases h : -(2 ^ 62) ≤ j ∧ j < 2 ^ 62
        · rw [if_pos h]; exact ⟨fun z => ⟨h, z⟩, fun z => z.2⟩
        · rw [if_neg h]; exact ⟨fun z => z.elim, fun z => h z.1⟩
      | _ => rfl
    | _ => rfl
theorem wI_rg2 : wI (iRg2 f g) e m QI ↔ wE f e m fun r m1 => intK r fun i => wE g e m1 fun r m2 => intK r fun j => (-(2 ^ 62) ≤ i ∧ i < 2 ^ 62 ∧ -(2 ^ 62) ≤ j ∧ j < 2 ^ 62) ∧ QI (rgL i (j - i).toNat) noC m2 := by
  unfold wI wE iRg2
  cases f e m with
  | none => rfl
  | some p =>
    obtain ⟨r, m1⟩ := p
    simp only [oK]
    cases r with
    | d x =>
      cases x with
      | int i =>
        simp only [intK]
        cases g e m1 with
        | none => rfl
        | some q =>
          obtain ⟨r, m2⟩ := q
          cases r with
          | d y =>
            cases y with
            | int j =>
              simp only
              by_cases h : -(2 ^ 62) ≤ i ∧ i < 2 ^ 62 ∧ -(2 ^ 62) ≤ j ∧ j < 2 ^ 62
              · rw [if_pos h]; exact ⟨fun z => ⟨h, z⟩, fun z => z.2⟩
              · rw [if_neg h]; exact ⟨fun z => z.elim, fun z => h z.1⟩
            | _ => rfl
          | _ => rfl
      | _ => rfl
    | _ => rfl
end
end DL
set_option Elab.async false
set_option linter.all false
set_option maxRecDepth 10000
set_option maxHeartbeats 4000000
namespace DL
open PySem PySem.Spec PyProof.Rows L2
theorem gA0 {R L : Mem} {x : MO} : (R ++ x :: L)[R.length]? = some x := by simp
theorem gA1 {R L : Mem} {x y : MO} : (R ++ x :: y :: L)[R.length + 1]? = some y := by simp
theorem gA2 {R L : Mem} {x y z : MO} : (R ++ x :: y :: z :: L)[R.length + 2]? = some z := by simp
theorem gA3 {R L : Mem} {x y z w : MO} : (R ++ x :: y :: z :: w :: L)[R.length + 3]? = some w := by simp
theorem sA0 {R L : Mem} {x o : MO} : (R ++ x :: L).set R.length o = R ++ o :: L := by simp
theorem sA1 {R L : Mem} {x y o : MO} : (R ++ x :: y :: L).set (R.length + 1) o = R ++ x :: o :: L := by simp
theorem sA2 {R L : Mem} {x y z o : MO} : (R ++ x :: y :: z :: L).set (R.length + 2) o = R ++ x :: y :: o :: L := by simp
theorem sA3 {R L : Mem} {x y z w o : MO} : (R ++ x :: y :: z :: w :: L).set (R.length + 3) o = R ++ x :: y :: z :: o :: L := by simp
theorem tA0 {R L : Mem} {p : MO} : (p :: (R ++ L)).take (R.length + 1) = p :: R := by simp
theorem tA1 {R L : Mem} {p o : MO} : (p :: (R ++ o :: L)).take (R.length + 1 + 1) = p :: (R ++ [o]) := by
  rw [List.take_succ_cons, List.take_append, List.take_of_length_le (Nat.le_succ _)]
  simp
theorem tA9 {R : Mem} {p : MO} : (p :: R).take (R.length + 1) = p :: R := by simp
theorem mA0 {R : Mem} : R.take R.length = R := by simp
theorem mA1 {R L : Mem} : (R ++ L).take R.length = R := by simp
section
variable {f : ME} {c : MB} {t : MG} {it : MIt} {vs : List Nat} {e : Env'} {m : Mem} {Q : EV → Mem → Prop}
theorem lc_by {n : Nat} {C : Mem → Prop} {e0 : Env'} (J : List EV → List PyData → Mem → Prop) (hn : ∀ xs acc m, J xs acc m → m.length = n)
    (step : ∀ x xs acc m, J (x :: xs) acc m → C (m ++ [.lst acc]) ∧ oK (t x e0 (m ++ [.lst acc])) fun e1 => wB c e1 (m ++ [.lst acc]) fun k M => if k = true then wE f e1 M fun v M2 => datK v fun y => ∃ m2, M2 = m2 ++ [.lst acc] ∧ m2.length = n ∧ acc.length < sizeLine ∧ J xs (acc ++ [y]) m2 else ∃ m2, M = m2 ++ [.lst acc] ∧ J xs acc m2)
    (done : ∀ acc m, J [] acc m → C (m ++ [.lst acc])) : ∀ (xs : List EV) (acc : List PyData) (m : Mem), J xs acc m → oK (lcL t c f n C e0 xs (m ++ [.lst acc])) fun M => ∃ acc m, M = m ++ [.lst acc] ∧ J [] acc m
  | [], acc, m, h => by
    unfold lcL
    rw [if_pos (done acc m h)]
    exact ⟨acc, m, rfl, h⟩
  | x :: xs, acc, m, h => by
    obtain ⟨h1, h2⟩ := step x xs acc m h
    unfold lcL
    rw [if_pos h1]
    cases q : t x e0 (m ++ [.lst acc]) with
    | none => rw [q] at h2; exact h2.elim
    | some e1 =>
      rw [q] at h2
      simp only [oK] at h2
      simp only
      cases q2 : c e1 (m ++ [.lst acc]) with
      | none => unfold wB at h2; rw [q2] at h2; exact h2.elim
      | some p =>
        unfold wB at h2
        rw [q2] at h2
        obtain ⟨k, M⟩ := p
        simp only [oK] at h2
        cases k with
        | false =>
          obtain ⟨m2, rfl, h3⟩ := h2
          exact lc_by J hn step done xs acc m2 h3
        | true =>
          simp only [if_true] at h2
          unfold wE at h2
          simp only
          cases q3 : f e1 M with
          | none => rw [q3] at h2; exact h2.elim
          | some p =>
            rw [q3] at h2
            obtain ⟨v, M2⟩ := p
            simp only [oK] at h2
            cases v with
            | d y =>
              obtain ⟨m2, rfl, h4, h5, h6⟩ := h2
              have g1 : (m2 ++ [MO.lst acc])[n]? = some (.lst acc) := by rw [← h4, List.getElem?_append_right (Nat.le_refl _), Nat.sub_self]; rfl
              have g2 : (m2 ++ [MO.lst acc]).set n (.lst (acc ++ [y])) = m2 ++ [.lst (acc ++ [y])] := by rw [← h4, List.set_append_right _ _ (Nat.le_refl _), Nat.sub_self]; rfl
              simp only [g1, if_pos h5, g2]
              exact lc_by J hn step done xs _ m2 h6
            | _ => exact h2.elim
theorem wE_comp (J : List EV → List PyData → Mem → Prop) (hi : wI it e m fun xs C m1 => m1.length = m.length ∧ J xs [] m1 ∧ (∀ x xs acc m', J (x :: xs) acc m' → m'.length = m.length → C (m' ++ [.lst acc]) ∧ oK (t x (wipeE e vs) (m' ++ [.lst acc])) fun e1 => wB c e1 (m' ++ [.lst acc]) fun k M => if k = true then wE f e1 M fun v M2 => datK v fun y => ∃ m2, M2 = m2 ++ [.lst acc] ∧ m2.length = m.length ∧ acc.length < sizeLine ∧ J xs (acc ++ [y]) m2 else ∃ m2, M = m2 ++ [.lst acc] ∧ m2.length = m.length ∧ J xs acc m2) ∧
      (∀ acc m', J [] acc m' → C (m' ++ [.lst acc]))) (q : ∀ acc m', J [] acc m' → m'.length = m.length → Q (.l m.length) (m' ++ [.lst acc])) : wE (eLc it t c f vs) e m Q := by
  unfold wE eLc
  unfold wI at hi
  cases h : it e m with
  | none => rw [h] at hi; exact hi.elim
  | some p =>
    rw [h] at hi
    obtain ⟨xs, C, m1⟩ := p
    simp only [oK] at hi
    obtain ⟨hl, h0, step, done⟩ := hi
    have key := lc_by (t := t) (c := c) (f := f) (n := m.length) (C := C) (e0 := wipeE e vs) (fun xs acc m' => J xs acc m' ∧ m'.length = m.length) (fun _ _ _ z => z.2) (fun x xs acc m' z => by
      obtain ⟨a, b⟩ := step x xs acc m' z.1 z.2
      refine ⟨a, oK_imp b fun e1 g => wB_imp g fun k M g => ?_⟩
      revert g
      split
      · exact fun g => wE_imp g fun v M2 g => by
          revert g
          cases v with
          | d y => exact fun ⟨m2, g1, g2, g3, g4⟩ => ⟨m2, g1, g2, g3, g4, g2⟩
          | _ => exact fun g => g
      · exact fun ⟨m2, g1, g2, g3⟩ => ⟨m2, g1, g3, g2⟩) (fun acc m' z => done acc m' z.1) xs [] m1 ⟨h0, hl⟩
    simp only [hl]
    cases h2 : lcL t c f m.length C (wipeE e vs) xs (m1 ++ [.lst []]) with
    | none => rw [h2] at key; exact key.elim
    | some M =>
      rw [h2] at key
      obtain ⟨acc, m', rfl, k1, k2⟩ := key
      exact q acc m' k1 k2
theorem frK_l {m' : Mem} {acc : List PyData} (h : m'.length = m.length) : frK m.length (.l m.length) (m' ++ [.lst acc]) Q ↔ Q (.d (.list acc)) m' := by
  have g1 : (m' ++ [MO.lst acc])[m.length]? = some (.lst acc) := by rw [← h, List.getElem?_append_right (Nat.le_refl _), Nat.sub_self]; rfl
  have g2 : (m' ++ [MO.lst acc]).take m.length = m' := by rw [← h, List.take_left]
  show (_ ∧ _) ∧ oK (vw _ _) _ ↔ _
  rw [vw_l, g1, g2]
  simp [h, oK, vwO]
/-- a comprehension whose list is data -/
theorem wE_compZ (J : List EV → List PyData → Mem → Prop) (hi : wI it e m fun xs C m1 => m1.length = m.length ∧ J xs [] m1 ∧ (∀ x xs acc m', J (x :: xs) acc m' → m'.length = m.length → C (m' ++ [.lst acc]) ∧ oK (t x (wipeE e vs) (m' ++ [.lst acc])) fun e1 => wB c e1 (m' ++ [.lst acc]) fun k M => if k = true then wE f e1 M fun v M2 => datK v fun y => ∃ m2, M2 = m2 ++ [.lst acc] ∧ m2.length = m.length ∧ acc.length < sizeLine ∧ J xs (acc ++ [y]) m2 else ∃ m2, M = m2 ++ [.lst acc] ∧ m2.length = m.length ∧ J xs acc m2) ∧
      (∀ acc m', J [] acc m' → C (m' ++ [.lst acc]))) (q : ∀ acc m', J [] acc m' → m'.length = m.length → Q (.d (.list acc)) m') : wE (eFrz (eLc it t c f vs)) e m Q :=
  wE_frz.mpr (wE_comp J hi fun acc m' h1 h2 => (frK_l h2).mpr (q acc m' h1 h2))
/-- a comprehension over things that are known ahead; the state goes on from item to item -/
theorem wE_compY (xs : List EV) (hi : wI it e m fun xs' C m1 => xs' = xs ∧ (∀ m, C m) ∧ m1 = m) (J : List EV → List PyData → Mem → Prop) (h0 : J xs [] m)
    (step : ∀ x rest acc m', J (x :: rest) acc m' → m'.length = m.length → oK (t x (wipeE e vs) (m' ++ [.lst acc])) fun e1 => wE f e1 (m' ++ [.lst acc]) fun v M2 => datK v fun y => ∃ m2, M2 = m2 ++ [.lst acc] ∧ m2.length = m.length ∧ acc.length < sizeLine ∧ J rest (acc ++ [y]) m2)
    (q : ∀ acc m', J [] acc m' → m'.length = m.length → Q (.d (.list acc)) m') : wE (eFrz (eLc it t cYes f vs)) e m Q := by
  refine wE_compZ J (wI_imp hi fun xs' C m1 z => ?_) q
  obtain ⟨z1, z2, z3⟩ := z
  refine ⟨by rw [z3], by rw [z1, z3]; exact h0, fun x rest acc m' hj hl => ⟨z2 _, oK_imp (step x rest acc m' hj hl) fun e1 g => ?_⟩, fun acc m' _ => z2 _⟩
  rw [wB_yes, if_pos rfl]
  exact g
/-- items that are told one by one, nothing else changed -/
theorem wE_map {α : Type} (as : List α) (enc : α → EV) (φ : α → PyData) (hl : as.length ≤ sizeLine) (hi : wI it e m fun xs C m1 => xs = as.map enc ∧ (∀ m, C m) ∧ m1 = m)
    (h : ∀ a ∈ as, ∀ M : Mem, (∃ acc, M = m ++ [.lst acc]) → oK (t (enc a) (wipeE e vs) M) fun e1 => wE f e1 M fun v M2 => v = .d (φ a) ∧ M2 = M) (q : Q (.d (.list (as.map φ))) m) : wE (eFrz (eLc it t cYes f vs)) e m Q := by
  refine wE_compZ (fun xs acc m' => m' = m ∧ ∃ done rest, as = done ++ rest ∧ xs = rest.map enc ∧ acc = done.map φ) (wI_imp hi fun xs' C m1 z => ?_) fun acc m' z _ => ?_
  · obtain ⟨z1, z2, z3⟩ := z
    refine ⟨by rw [z3], ⟨z3, [], as, rfl, z1, rfl⟩, fun x xs acc m' y _ => ⟨z2 _, ?_⟩, fun acc m' _ => z2 _⟩
    obtain ⟨rfl, done, rest, y2, y3, y4⟩ := y
    cases rest with
    | nil => cases y3
    | cons a rest =>
      rw [List.map_cons] at y3
      cases y3
      have ha : a ∈ as := by rw [y2]; simp
      refine oK_imp (h a ha _ ⟨acc, rfl⟩) fun e1 g => ?_
      show wB cYes e1 _ _
      rw [wB_yes, if_pos rfl]
      refine wE_imp g fun v M2 ⟨g1, g2⟩ => ?_
      subst g1
      refine ⟨_, g2, rfl, ?_, rfl, done ++ [a], rest, by rw [y2]; simp, rfl, by rw [y4]; simp⟩
      rw [y4, List.length_map]
      have := congrArg List.length y2
      simp at this
      omega
  · obtain ⟨rfl, done, rest, y2, y3, y4⟩ := z
    cases rest with
    | nil => rw [y4]; simp at y2; rw [← y2]; exact q
    | cons a rest => cases y3
/-- .. some of them -/
theorem wE_filt {α : Type} (as : List α) (enc : α → EV) (p : α → Bool) (φ : α → PyData) (hl : as.length ≤ sizeLine) (hi : wI it e m fun xs C m1 => xs = as.map enc ∧ (∀ m, C m) ∧ m1 = m)
    (h : ∀ a ∈ as, ∀ M : Mem, (∃ acc, M = m ++ [.lst acc]) → oK (t (enc a) (wipeE e vs) M) fun e1 => wB c e1 M fun k M1 => k = p a ∧ M1 = M ∧ (p a = true → wE f e1 M fun v M2 => v = .d (φ a) ∧ M2 = M)) (q : Q (.d (.list ((as.filter p).map φ))) m) : wE (eFrz (eLc it t c f vs)) e m Q := by
  refine wE_compZ (fun xs acc m' => m' = m ∧ ∃ done rest, as = done ++ rest ∧ xs = rest.map enc ∧ acc = (done.filter p).map φ) (wI_imp hi fun xs' C m1 z => ?_) fun acc m' z _ => ?_
  · obtain ⟨z1, z2, z3⟩ := z
    refine ⟨by rw [z3], ⟨z3, [], as, rfl, z1, rfl⟩, fun x xs acc m' y _ => ⟨z2 _, ?_⟩, fun acc m' _ => z2 _⟩
    obtain ⟨rfl, done, rest, y2, y3, y4⟩ := y
    cases rest with
    | nil => cases y3
    | cons a rest =>
      rw [List.map_cons] at y3
      cases y3
      have ha : a ∈ as := by rw [y2]; simp
      refine oK_imp (h a ha _ ⟨acc, rfl⟩) fun e1 g => ?_
      refine wB_imp g fun k M1 g => ?_
      obtain ⟨g1, g2, g3⟩ := g
      rw [g1]
      split
      · rename_i hp
        rw [g2]
        refine wE_imp (g3 hp) fun v M2 ⟨g1, g2⟩ => ?_
        subst g1
        refine ⟨_, g2, rfl, ?_, rfl, done ++ [a], rest, by rw [y2]; simp, rfl, by rw [y4]; simp [hp]⟩
        rw [y4, List.length_map]
        have := congrArg List.length y2
        have h2 := List.length_filter_le p done
        simp only [List.length_append, List.length_cons] at this
        omega
      · rename_i hp
        exact ⟨_, g2, rfl, rfl, done ++ [a], rest, by rw [y2]; simp, rfl, by rw [y4]; simp [hp]⟩
  · obtain ⟨rfl, done, rest, y2, y3, y4⟩ := z
    cases rest with
    | nil => rw [y4]; simp at y2; rw [← y2]; exact q
    | cons a rest => cases y3
end
end DL
set_option Elab.async false
set_option linter.all false
set_option maxRecDepth 100000
set_option maxHeartbeats 4000000
/-! repr of whatever is data -/
namespace DL
open PySem PySem.Spec PyProof.Rows L2
/-- the dict of modules stands -/
def HasSys (base : Heap) : Prop := ∃ o, base.get? sysModules = some o
section
variable {X : Cx} {pins : List (Addr × Obj)} {σ : L2.St} {H G : Hp} {s : Shared}
theorem sys_free (I : Inv X pins σ H s) (hs : HasSys X.base) : H sysModules = none := by
  obtain ⟨o, e⟩ := hs
  exact (I.bs _ o e).2
theorem keyIs_reads {h : Heap} {k : Key} {v : Value} (q : keyIs k v = true) : Reads h v (keyD k) [] := by
  rcases keyIs_shape q with ⟨i, t, rfl, rfl⟩ | ⟨x, t, rfl, rfl⟩
  · exact .int i t
  · exact .str x t
theorem pairs_keys {P : Program} {w : World} {h : Heap} : ∀ {es : List DictEntry} {vs : List (Key × Value)} {ds : List (PyData × PyData)}, Pairs (mixKind P w) es vs → vs.map (keyD ·.1) = ds.map (·.1) → ReadsAll h (es.map (·.key)) (ds.map (·.1)) []
  | [], _, ds, .nil, e => by
    cases ds with
    | nil => exact .nil
    | cons d ds => cases e
  | e :: es, _, ds, .cons (kv := kv) h1 h2 h3, q => by
    cases ds with
    | nil => cases q
    | cons d ds =>
      simp only [List.map_cons, List.cons.injEq] at q
      have r1 : Reads h e.key (keyD kv.1) [] := keyIs_reads h1
      rw [q.1] at r1
      exact ReadsAll.cons r1 (pairs_keys h3 q.2)
theorem pairs_vals {P : Program} {w : World} : ∀ {es : List DictEntry} {vs : List (Key × Value)}, Pairs (mixKind P w) es vs → es.map (·.val) = vs.map (·.2)
  | [], _, .nil => rfl
  | e :: es, _, .cons h1 h2 h3 => by rw [List.map_cons, List.map_cons, h2, pairs_vals h3]
theorem kv_keys : ∀ {ys : List (Key × V)} {vs : List (Key × Value)} {ds : List (PyData × PyData)}, KV ys vs → DtK X.K G ys ds → vs.map (keyD ·.1) = ds.map (·.1)
  | _, _, _, .nil, .nil => rfl
  | _, _, _, .cons h r, .cons g q => by
    rw [List.map_cons, List.map_cons, kv_keys r q, ← h.1]
mutual
theorem Dt.reads (I : Inv X pins σ H s) (hs : HasSys X.base) (le : ∀ a o, G a = some o → H a = some o) : ∀ (d : PyData) (v : V) (u : Value), Dt X.K G v d → RelV v u → ∃ as, Reads s.heap u d as ∧ sysModules ∉ as
  | .none, _, _, h, r => by
    cases h; cases r
    exact ⟨_, Reads.none, by simp⟩
  | .bool b, _, _, h, r => by
    cases h; cases r
    exact ⟨_, Reads.bool b, by simp⟩
  | .int i, _, _, h, r => by
    cases h
    obtain ⟨t, rfl⟩ := r
    exact ⟨_, Reads.int i t, by simp⟩
  | .str x, _, _, h, r => by
    cases h
    obtain ⟨t, rfl⟩ := r
    exact ⟨_, Reads.str x t, by simp⟩
  | .list ds, _, _, h, r => by
    cases h with
    | lst hl ha =>
      rename_i a xs
      cases r
      have hl' := le _ _ hl
      obtain ⟨its, rv, ⟨o, n, ho, hc, _, hd⟩, _⟩ := I.list (.of hl')
      obtain ⟨as, hr, hn⟩ := DtA.reads I hs le ds _ its ha rv
      refine ⟨_, Reads.list ho hc hd hr, fun hm => ?_⟩
      rcases List.mem_cons.mp hm with e | hm
      · rw [← e, sys_free I hs] at hl'
        cases hl'
      · exact hn hm
  | .tuple ds, _, _, h, r => by
    cases h with
    | tup hl ha =>
      rename_i a xs
      cases r
      have hl' : SqT X.K H a xs := by
        rcases hl with (hl | ⟨o, hl⟩) | hl
        · exact .inl (.inl (le _ _ hl))
        · exact .inl (.inr ⟨o, le _ _ hl⟩)
        · exact .inr hl
      obtain ⟨its, rv, ⟨o, ho, hc, n, hd⟩, _⟩ := I.tuple hl'
      obtain ⟨as, hr, hn⟩ := DtA.reads I hs le ds _ its ha rv
      exact ⟨_, Reads.tuple ho hc hd hr, hn⟩
  | .dict ds, _, _, h, r => by
    cases h with
    | dic hl ha =>
      rename_i a ys
      cases r
      obtain ⟨_, hsy, vs, hkv, o, es, ep, ho, hex, hd, _, hp, _⟩ := I.hok _ _ (le _ _ hl)
      have rk : ReadsAll s.heap (es.toList.map (·.key)) (ds.map (·.1)) [] := pairs_keys hp (kv_keys hkv ha)
      obtain ⟨bs, rv, hn⟩ := DtK.reads I hs le ds _ vs ha hkv
      rw [← pairs_vals hp] at rv
      refine ⟨_, Reads.dict ho hex.1 hd rk rv, fun hm => ?_⟩
      rcases List.mem_cons.mp hm with e | hm
      · rw [← e] at hsy
        simp at hsy
      · exact hn hm
theorem DtA.reads (I : Inv X pins σ H s) (hs : HasSys X.base) (le : ∀ a o, G a = some o → H a = some o) : ∀ (ds : List PyData) (vs : List V) (us : List Value), DtA X.K G vs ds → Vals vs us → ∃ as, ReadsAll s.heap us ds as ∧ sysModules ∉ as
  | [], _, _, h, r => by
    cases h; cases r
    exact ⟨_, ReadsAll.nil, by simp⟩
  | d :: ds, _, _, h, r => by
    cases h with
    | cons h1 h2 =>
      cases r with
      | cons r1 r2 =>
        obtain ⟨as, q1, n1⟩ := Dt.reads I hs le d _ _ h1 r1
        obtain ⟨bs, q2, n2⟩ := DtA.reads I hs le ds _ _ h2 r2
        exact ⟨_, ReadsAll.cons q1 q2, fun hm => (List.mem_append.mp hm).elim n1 n2⟩
theorem DtK.reads (I : Inv X pins σ H s) (hs : HasSys X.base) (le : ∀ a o, G a = some o → H a = some o) : ∀ (ds : List (PyData × PyData)) (ys : List (Key × V)) (vs : List (Key × Value)), DtK X.K G ys ds → KV ys vs → ∃ as, ReadsAll s.heap (vs.map (·.2)) (ds.map (·.2)) as ∧ sysModules ∉ as
  | [], _, _, h, r => by
    cases h; cases r
    exact ⟨_, ReadsAll.nil, by simp⟩
  | (k, d) :: ds, _, _, h, r => by
    cases h with
    | cons h1 h2 =>
      cases r with
      | cons r1 r2 =>
        obtain ⟨as, q1, n1⟩ := Dt.reads I hs le d _ _ h1 r1.2
        obtain ⟨bs, q2, n2⟩ := DtK.reads I hs le ds _ _ h2 r2
        exact ⟨_, ReadsAll.cons q1 q2, fun hm => (List.mem_append.mp hm).elim n1 n2⟩
end
/-- repr of any data -/
def shortI : PyData → Bool
  | .int i => decide (i.natAbs.log2 < 1920)
  | _ => true
def reprA : PyData → Option PyData := fun d => if d.showable = true ∧ d.depth ≤ 64 ∧ d.shown.length ≤ sizeLine ∧ shortI d = true then some (.str d.shown) else none
theorem cd_reprA (hg : X.A.guards = some []) (hu : X.A.units + 65 < cLine) (hsy : HasSys X.base) : CallR X (.builtin "repr") (rcb X.K (c1F reprA)) := by
  intro pins s σ H xs us Q I r h
  obtain ⟨ρ, m, v, d, z, rfl, R, hd, hz, k⟩ := c1F_of h
  obtain ⟨u, rfl, ru⟩ : ∃ u, us = [u] ∧ RelV v u := by
    cases r with
    | cons r1 r2 => cases r2; exact ⟨_, rfl, r1⟩
  unfold reprA at hz
  split at hz
  · rename_i c
    cases hz
    cases d with
    | none =>
      cases hd; cases ru
      exact PySem.P.repr_of_none ⟨.str _, H, I.tok _, ⟨_, rfl⟩, rop_k R k (.str _)⟩
    | bool b =>
      cases hd; cases ru
      exact PySem.P.repr_of_bool ⟨.str _, H, I.tok _, ⟨_, rfl⟩, rop_k R k (.str _)⟩
    | int i =>
      cases hd
      obtain ⟨t, rfl⟩ := ru
      exact PySem.P.repr_of_int (of_decide_eq_true c.2.2.2) ⟨.str _, H, I.tok _, ⟨_, rfl⟩, rop_k R k (.str _)⟩
    | str x =>
      cases hd
      obtain ⟨t, rfl⟩ := ru
      exact PySem.P.repr_of_str ⟨.str _, H, I.tok _, ⟨_, rfl⟩, rop_k R k (.str _)⟩ c.2.2.1
    | list ds =>
      obtain ⟨as, hr, hn⟩ := Dt.reads I hsy (fun _ _ q => q) _ v u hd ru
      cases hd with
      | lst _ _ =>
        cases ru
        exact repr_of_reads' hr c.1 (fun _ => hn) hg (by omega) (fun _ _ e => e) (fun h' u tk hk => ⟨.str _, H, I.kept (t' := tk) hk, ⟨_, rfl⟩, rop_k R k (.str _)⟩) c.2.2.1
    | tuple ds =>
      obtain ⟨as, hr, hn⟩ := Dt.reads I hsy (fun _ _ q => q) _ v u hd ru
      cases hd with
      | tup _ _ =>
        cases ru
        exact repr_of_reads' hr c.1 (fun _ => hn) hg (by omega) (fun _ _ e => e) (fun h' u tk hk => ⟨.str _, H, I.kept (t' := tk) hk, ⟨_, rfl⟩, rop_k R k (.str _)⟩) c.2.2.1
    | dict ds =>
      obtain ⟨as, hr, hn⟩ := Dt.reads I hsy (fun _ _ q => q) _ v u hd ru
      cases hd with
      | dic _ _ =>
        cases ru
        exact repr_of_reads' hr c.1 (fun _ => hn) hg (by omega) (fun _ _ e => e) (fun h' u tk hk => ⟨.str _, H, I.kept (t' := tk) hk, ⟨_, rfl⟩, rop_k R k (.str _)⟩) c.2.2.1
  · cases hz
end
/-- len of the script -/
def lenF : Mem → List EV → Option PyData := fun _ xs => match xs with
  | [.f ds] => some (.int ds.length)
  | _ => none
theorem cd_lenF {X : Cx} : CallR X (.builtin "len") (rcb X.K lenF) := by
  intro pins s σ H xs us Q I r h
  obtain ⟨ρ, m, rs, z, R, q, hz, k⟩ := h
  unfold lenF at hz
  split at hz
  · cases hz
    cases q with
    | cons r1 r2 =>
      cases r2
      obtain ⟨a, ys, rfl, h1, h2⟩ := r1
      have h3 : SqL X.K H a ys := by
        rcases h1 with (h1 | ⟨o, h1⟩) | h1
        · exact .inl (.inl (hid_le _ _ h1))
        · exact .inl (.inr ⟨o, hid_le _ _ h1⟩)
        · exact .inr h1
      refine call_len_seq pins s σ H _ us Q I r ⟨a, ys, rfl, .inl h3, ?_⟩
      rw [h2.len]
      exact rop_k R k (.int _)
  · cases hz
theorem hasSys_of {h : Heap} {mm : Str → Option Value} (e : h.Ns sysModules mm) : HasSys h := let ⟨o, _, _, q, _⟩ := e; ⟨o, q⟩
/-! ### the law's call -/
section
variable {P : Program} {w : World} {K : Frg} {mg mb : Str → Option Value} {k : Nat} {fa a : Addr} {fd : FuncData} {x : Str} {F : MF} {s1 : Shared} {vs : List Value} {ns : List Int}
abbrev DoneS (s1 : Shared) : Result → Shared → Prop := fun r s' => r = .ok (.ret (.bool true)) ∧ OldK s1.heap s'.heap ∧ s'.os = s1.os ∧ AllBare s'.gens
theorem lawS_core {H : Hp} (kx : K.In s1.heap) (hns : s1.heap.Ns mainGlobals mg) (hb : s1.heap.Ns builtinsNs mb) (hbb : ∀ x : Str, x ≠ "__name__" → mb x = bootBuiltins x) (hlim : s1.heap.NoLimit) (hsm : ∃ mm, s1.heap.Ns sysModules mm) (hg : s1.gens = #[])
    (ha : s1.heap.get? a = some { cls := .type "list", data := .seq vs.toArray }) (hr : Room k callerA) (G : ∀ base : Heap, K.In base → base.Ns mainGlobals mg → HasSys base → FnG P w K mg base k fa fd [x] F)
    (bd : ∀ (s : Shared) (u : Value), BindsTo s fd ⟨[u], []⟩ [(x, u)]) (hF : ∃ m', F [.f (ns.map PyData.int)] [] = some (.d (.bool true), m'))
    (hO : ∀ b, H b = none ∨ ∃ o xs, H b = some (.frz o (.lst xs))) (hS : SqL K H a (ns.map V.int)) (hok : HOk P w H s1.heap) (hA : ∀ b, H b ≠ none → b = a) (hK : H a ≠ none → K.lookup a = none) :
    codeAny (model P w) callerA (.call (.ref fa) ⟨[.ref a], []⟩) (DoneS s1) s1 := by
  -- what is not the script stays in the base
  have stays : ∀ {b : Addr} {o : Obj}, s1.heap.get? b = some o → H b = none → (hidT s1.heap H).get? b = some o := fun e n => hidT_get e n
  have notDict : ∀ {b : Addr} {o : Obj} {es : Array DictEntry} {ep : Nat}, s1.heap.get? b = some o → o.data = .dict es ep → H b = none := by
    intro b o es ep e d
    cases q : H b with
    | none => rfl
    | some u =>
      cases hA b (by rw [q]; exact fun z => nomatch z)
      rw [ha] at e
      cases e
      cases d
  have keepNs : ∀ {b : Addr} {m : Str → Option Value}, s1.heap.Ns b m → (hidT s1.heap H).Ns b m := by
    rintro b m ⟨o, es, ep, e, d, r⟩
    exact ⟨o, es, ep, stays e (notDict e d), d, r⟩
  have kb : K.In (hidT s1.heap H) := by
    intro b o e
    refine stays (kx b o e) ?_
    cases q : H b with
    | none => rfl
    | some u =>
      cases hA b (by rw [q]; exact fun z => nomatch z)
      rw [hK (by rw [q]; exact fun z => nomatch z)] at e
      cases e
  have md : Mod K mg (hidT s1.heap H) := by
    obtain ⟨mc, c1, c2⟩ := hlim
    exact ⟨kb, keepNs hns, ⟨mb, keepNs hb, hbb⟩, ⟨mc, keepNs c1, c2⟩⟩
  have e0 : Env0 P w K mg (hidT s1.heap H) callerA [] s1 H :=
    { frames := rfl, mod := md, bs := fun b o e => of_hidT e, bsz := Nat.le_of_eq (hidT_size _ _), funs := trivial, frf := fun b hb => absurd (show b ∈ ([] : List Addr) from hb) (by simp), hok := hok, bare := .of_eq hg }
  have R0 : RelM K H [] [] := ⟨rfl, List.nodup_nil, fun b hb => absurd hb (by simp), fun i b o e => by simp at e⟩
  have hh : hid [] [] H = H := by
    funext b
    exact hid_no (fun ⟨i, o, e, _⟩ => by simp at e)
  have dta : ∀ l : List Int, DtA K H (l.map V.int) (l.map PyData.int) := by
    intro l
    induction l with
    | nil => exact .nil
    | cons n l ih => exact .cons (.int n) ih
  obtain ⟨m', hF⟩ := hF
  have sp0 : spD K F [.ref a] H (fun v _ => v = .bl true) E0 := by
    refine ⟨[], [], [.f (ns.map PyData.int)], R0, .cons ?_ .nil, _, m', hF, fun v H' ρ' _ _ hv => ?_⟩
    · rw [hh]
      exact ⟨a, _, rfl, hS, dta ns⟩
    · cases hv
      rfl
  refine codeAny_mono ((G _ kb (keepNs hns) (hasSys_of (keepNs hsm.choose_spec))).run callerA [] s1 H ⟨[.ref a], []⟩ [.ref a] [.ref a] _ rfl hr e0 (bd s1 (.ref a)) (.cons rfl .nil) sp0) fun r s2 hq => ?_
  match r, hq with
  | .error e, hq => exact False.elim hq
  | .ok .next, hq => exact False.elim hq
  | .ok .brk, hq => exact False.elim hq
  | .ok .cont, hq => exact False.elim hq
  | .ok (.ret u), hq =>
    obtain ⟨v, H', os, bare, un, hok2, rv, q⟩ := hq
    cases (show v = .bl true from q)
    cases (show u = Value.bool true from rv)
    refine ⟨rfl, OldK.of_keep fun b o e => ?_, os, bare⟩
    rcases hO b with z | ⟨ob, xs, z⟩
    · exact un.keep b o e z (by intro z; exact absurd (show b ∈ ([] : List Addr) from z) (by simp)) (by simp)
    · obtain ⟨e2, _⟩ := hok2 b _ (un.frzs b ob _ z)
      obtain ⟨e1, _⟩ := hok b _ z
      rw [e] at e1
      cases e1
      exact e2
theorem lawS_g (kx : K.In s1.heap) (hns : s1.heap.Ns mainGlobals mg) (hb : s1.heap.Ns builtinsNs mb) (hbb : ∀ x : Str, x ≠ "__name__" → mb x = bootBuiltins x) (hlim : s1.heap.NoLimit) (hsm : ∃ mm, s1.heap.Ns sysModules mm) (hg : s1.gens = #[])
    (ha : s1.heap.get? a = some { cls := .type "list", data := .seq vs.toArray }) (hi : IntsAre vs ns) (hl : ns.length ≤ sizeLine) (hr : Room k callerA) (G : ∀ base : Heap, K.In base → base.Ns mainGlobals mg → HasSys base → FnG P w K mg base k fa fd [x] F)
    (bd : ∀ (s : Shared) (u : Value), BindsTo s fd ⟨[u], []⟩ [(x, u)]) (hF : ∃ m', F [.f (ns.map PyData.int)] [] = some (.d (.bool true), m')) :
    codeAny (model P w) callerA (.call (.ref fa) ⟨[.ref a], []⟩) (DoneS s1) s1 := by
  have rv := vals_ints hi
  cases hk : K.lookup a with
  | some o =>
    -- an object of the module's own
    have e := kx a o hk
    rw [ha] at e
    cases e
    refine lawS_core (H := fun _ => none) kx hns hb hbb hlim hsm hg ha hr G bd hF (fun _ => .inl rfl) ?_ (fun b u z => by have z' : (none : Option HO) = some u := z; cases z') (fun b z => absurd rfl z) fun z => absurd rfl z
    exact .inr ⟨_, vs.toArray, _, hk, rfl, rfl, rfl, by rw [List.size_toArray, hi.length]; exact hl, by simpa using rv⟩
  | none =>
    have at1 : ∀ (b : Addr) (u : HO), (if b = a then some (HO.frz { cls := .type "list", data := .seq vs.toArray } (.lst (ns.map V.int))) else none) = some u → b = a ∧ u = HO.frz { cls := .type "list", data := .seq vs.toArray } (.lst (ns.map V.int)) := by
      intro b u z
      split at z
      · cases z; exact ⟨by assumption, rfl⟩
      · cases z
    refine lawS_core (H := fun b => if b = a then some (.frz { cls := .type "list", data := .seq vs.toArray } (.lst (ns.map V.int))) else none) kx hns hb hbb hlim hsm hg ha hr G bd hF (fun b => ?_) (.inl (.inr ⟨_, if_pos rfl⟩)) (fun b u z => ?_) (fun b z => ?_) fun _ => hk
    · by_cases e : b = a
      · exact .inr ⟨_, _, if_pos e⟩
      · exact .inl (if_neg e)
    · obtain ⟨rfl, rfl⟩ := at1 b u z
      exact ⟨ha, by rw [List.length_map]; exact hl, vs, _, rv, ha⟩
    · by_cases e : b = a
      · exact e
      · exact absurd (if_neg e) z
end
/-- the goal that is left of the head -/
theorem walk_s {l : PySem.W.OpenLaw} {n k : Nat} {q : Program} {loose : List Str} {XP : (Str → Option Value) → Heap → Prop} {YP : World → Heap → Prop} {d : DefRec} {K : Params → Frg} {F : MF} {x : Str}
    (hn : l.most = some n) (hn2 : n ≤ sizeLine) (hdf : d.params.defaults = []) (hq : importsNone q = true) (hr : Room k callerA) (hY : ∀ (w : World) (h : Heap), YP w h → (K w.params).In h)
    (G : ∀ (w : World) (mg : Str → Option Value) (fa : Addr) (h : Heap), (K w.params).In h → h.Ns mainGlobals mg → mg d.name = some (.ref fa) →
      ∃ fd : FuncData, (∀ (s : Shared) (u : Value), BindsTo s fd ⟨[u], []⟩ [(x, u)]) ∧ ∀ base : Heap, (K w.params).In base → base.Ns mainGlobals mg → HasSys base → FnG l.prog w (K w.params) mg base k fa fd [x] F)
    (hF : ∀ ns : List Int, ns.length ≤ n → ∃ m', F [.f (ns.map PyData.int)] [] = some (.d (.bool true), m')) :
    PySem.W.WalkO q loose XP YP l.row.toRowW d [] (fun f vs => PySem.call f vs) := by
  refine Att.attach_call hn hdf fun w s0 s1 mg mb fa o pm cd doc a vs ns Gr Y ho hd hcd hmg hobj hints hlen hg => ?_
  have kx := hY w _ Y
  obtain ⟨fd, bd, hG⟩ := G w mg fa _ kx Gr.T.g hmg
  exact lawS_g kx Gr.T.g Gr.T.b Gr.T.builtins Gr.T.nolimit (let ⟨mm, e, _⟩ := (Gr.T.seer hq).mods; ⟨mm, e⟩) hg hobj hints (Nat.le_trans hlen hn2) hr hG bd (hF ns hlen)
end DL
set_option Elab.async false
set_option linter.all false
set_option maxRecDepth 100000
set_option maxHeartbeats 4000000
/-! sum of lists, from a list on -/
namespace PySem
open Sem (wp)
theorem dl_args_sum2 (a b : Value) : argsOk "sum" ⟨[a, b], []⟩ := by unfold argsOk; kernel_rfl
section
variable {prog : Program} {w : World} {A : Around} {R : Result → Shared → Prop} {I l : Addr} {items : Array Value} {n : Nat}
/-- the items from the i-th on, so many, put together -/
def catFrom (xss : Nat → List Value) (i : Nat) : Nat → List Value
  | 0 => []
  | k + 1 => xss i ++ catFrom xss (i + 1) k
theorem catFrom_len {xss : Nat → List Value} {k i : Nat} : (catFrom xss i (k + 1)).length = (xss i).length + (catFrom xss (i + 1) k).length := by
  simp [catFrom]
theorem dl_sum_loop (hh : A.handled = none) (hlI : l ≠ I) (hn : items.size = n) (qs : Nat → Addr) (xss : Nat → List Value) (cs : Nat → Nat) (hval : ∀ i, i < n → items[i]? = some (.ref (qs i))) (S : Addr) (hSI : S ≠ I) (hSl : S ≠ l) (hqS : ∀ i, i < n → qs i ≠ S) (hqI : ∀ i, i < n → qs i ≠ I) :
    ∀ (k i : Nat) (s : Shared) (p : Addr) (acc : List Value) (ca c : Nat), n - i = k → i ≤ n → s.heap.IsListIter I l i → s.heap.IsList l items → p ≠ I → p ≠ S → s.heap.get? S = some { cls := .type "list", dict := none, data := .seq #[.ref p] c, slots := #[] } →
    PySem.IsL s.heap p acc.toArray ca → (∀ j, j < n → PySem.IsL s.heap (qs j) (xss j).toArray (cs j)) → acc.length + (catFrom xss i k).length ≤ sizeLine →
    (∀ s' p' c', Moved [S, I] (fun a b => b = a) s s' → PySem.IsL s'.heap p' (acc ++ catFrom xss i k).toArray c' → (p' = p ∨ s.heap.get? p' = none) → R (.ok (.ret (.ref p'))) s') →
    codeAny (model prog w) A (.builtin "sum.loop" ⟨[.ref I, .ref S, rawInt 2, rawInt 0], []⟩) R s := by
  have hh1 : A.in1.handled = none := hh
  have W := (Walks.list (prog := prog) (w := w) (A := A.in1) hh1 I l hlI items).toS
  have hsub : ∀ b ∈ [I], b ∈ [S, I] := fun b hb => List.mem_cons_of_mem _ hb
  intro k
  induction k with
  | zero =>
    intro i s p acc ca c hk hi hst hl hpI hpS hS hp hq hz hR
    have hin : i = items.size := by omega
    subst hin
    refine codeAny_builtin F.entry_sum_loop ?_
    rw [Around.under_plainId F.plain_sum_loop _]
    show wpAny _ A.in1 (seqItems? (.ref S) >>= _) _ _ s
    refine wpAny_bind (wpAny_seqItems hS rfl ?_)
    show wpAny _ A.in1 (tryCatch (pyNext (.ref I)) _ >>= _) _ _ s
    refine wpAny_bind (wpAny_tryCatch (W.done s _ _ ⟨hst, hl⟩ fun s' hm => ?_))
    refine wpAny_pure (hR s' p ca (hm.mono hsub) ?_ (.inl rfl))
    rw [show ∀ j, catFrom xss j 0 = [] from fun j => by unfold catFrom; rfl, List.append_nil]
    exact hm.heap _ _ (by simpa using hpI) hp
  | succ k ih =>
    intro i s p acc ca c hk hi hst hl hpI hpS hS hp hq hz hR
    have hlt : i < n := by omega
    refine codeAny_builtin F.entry_sum_loop ?_
    rw [Around.under_plainId F.plain_sum_loop _]
    show wpAny _ A.in1 (seqItems? (.ref S) >>= _) _ _ s
    refine wpAny_bind (wpAny_seqItems hS rfl ?_)
    show wpAny _ A.in1 (tryCatch (pyNext (.ref I)) _ >>= _) _ _ s
    refine wpAny_bind (wpAny_tryCatch (W.item i s _ _ (by omega) ⟨hst, hl⟩ fun v s' hP hst' hm => ?_))
    obtain rfl : v = .ref (qs i) := by
      have e := hP.symm.trans (hval i hlt)
      exact Option.some.inj e
    have hS' := hm.heap S _ (by simpa using hSI) hS
    have hp' := hm.heap p _ (by simpa using hpI) hp
    have hq' : ∀ j, j < n → PySem.IsL s'.heap (qs j) (xss j).toArray (cs j) := fun j hj => hm.heap _ _ (by simpa using hqI j hj) (hq j hj)
    have hz2 := hz
    rw [catFrom_len] at hz2
    obtain ⟨oI, hoI, _⟩ := id hst'.1
    show wpAny _ A.in1 ((holding [Value.ref (qs i)] (binaryOp .Add (.ref p) (.ref (qs i)))).attempt >>= _) _ _ _
    refine wpAny_bind (wpAny_attempt (wpAny_holding (PySem.P.add_list hp' (hq' i hlt) ?_ (by rw [List.size_toArray, List.size_toArray]; omega))))
    show wpAny _ A.in1 (updateSeq S (fun _ => #[.ref s'.heap.objs.size]) >>= _) _ _ _
    have hS1 := Heap.get?_push_of_some { cls := .type "list", data := .seq (acc.toArray ++ (xss i).toArray) } hS'
    refine wpAny_bind (wpAny_updateSeq hS1 rfl ?_)
    have hS₂ := Heap.get?_update_self (Obj.mapSeq fun _ => #[Value.ref s'.heap.objs.size]) hS1 rfl
    have neS : ∀ {b : Addr} {o : Obj}, s'.heap.get? b = some o → b ≠ s'.heap.objs.size := fun {b o} z => Nat.ne_of_lt (Heap.lt_size z)
    have hSne : S ≠ s'.heap.objs.size := neS hS'
    refine wpAny_bind (wpAny_letGo ?_)
    have keep : ∀ b o, S ≠ b → s'.heap.get? b = some o → (((s'.heap.push { cls := .type "list", data := .seq (acc.toArray ++ (xss i).toArray) }).update S (Obj.mapSeq fun _ => #[Value.ref s'.heap.objs.size])).update S (Obj.mapSeq fun _ => #[Value.ref s'.heap.objs.size])).get? b = some o := fun b o hb e =>
      (Heap.get?_update_other _ _ hb).trans ((Heap.get?_update_other _ _ hb).trans (Heap.get?_push_of_some _ e))
    have hnew : PySem.IsL (((s'.heap.push { cls := .type "list", data := .seq (acc.toArray ++ (xss i).toArray) }).update S (Obj.mapSeq fun _ => #[Value.ref s'.heap.objs.size])).update S (Obj.mapSeq fun _ => #[Value.ref s'.heap.objs.size])) s'.heap.objs.size (acc ++ xss i).toArray 0 := by
      have e1 : acc.toArray ++ (xss i).toArray = (acc ++ xss i).toArray := by simp
      rw [e1]
      exact (Heap.get?_update_other _ _ hSne).trans ((Heap.get?_update_other _ _ hSne).trans (Heap.get?_push_size _ rfl))
    have hIne : I ≠ s'.heap.objs.size := neS hoI
    have hS3 := Heap.get?_update_self (Obj.mapSeq fun _ => #[Value.ref s'.heap.objs.size]) hS₂ rfl
    refine wpAny_bind (wpAny_updateSeq hS₂ rfl (wpAny_pure ⟨plainId_quiet F.plain_sum_loop _, ih (i + 1) _ s'.heap.objs.size (acc ++ xss i) 0 _ (by omega) hlt (hst'.1.at fun o e => keep I o hSI e) (hst'.2.at fun o e => keep l o hSl e) (Ne.symm hIne) (Ne.symm hSne) hS3 hnew (fun j hj => keep _ _ (Ne.symm (hqS j hj)) (hq' j hj)) ?_ fun s'' p'' c'' hm'' hl'' hn'' => ?_⟩))
    · rw [List.length_append]; omega
    · have kk : ∀ b o, b ∉ [S, I] → s.heap.get? b = some o → (((s'.heap.push { cls := .type "list", data := .seq (acc.toArray ++ (xss i).toArray) }).update S (Obj.mapSeq fun _ => #[Value.ref s'.heap.objs.size])).update S (Obj.mapSeq fun _ => #[Value.ref s'.heap.objs.size])).get? b = some o := fun b o hb e =>
        keep b o (fun h : S = b => hb (by rw [h]; exact List.mem_cons_self)) (hm.heap b o (fun hm => hb (hsub _ hm)) e)
      refine hR s'' p'' c'' (Moved.trans (fun _ _ _ h1 h2 => h2.trans h1) ((hm.mono hsub).then_heap (by first | exact Nat.le_refl _ | exact Nat.le_succ _ | omega) fun b o hb e => keep b o (fun h : S = b => hb (by rw [h]; exact List.mem_cons_self)) e) hm'') ?_ ?_
      · rw [List.append_assoc] at hl''
        exact hl''
      · refine .inr ?_
        have low : ∀ b, (((s'.heap.push { cls := .type "list", data := .seq (acc.toArray ++ (xss i).toArray) }).update S (Obj.mapSeq fun _ => #[Value.ref s'.heap.objs.size])).update S (Obj.mapSeq fun _ => #[Value.ref s'.heap.objs.size])).get? b = none → s.heap.get? b = none := fun b hb => by
          cases e : s.heap.get? b with
          | none => rfl
          | some o =>
            by_cases h1 : b ∈ [S, I]
            · simp only [List.mem_cons, List.not_mem_nil, or_false] at h1
              rcases h1 with rfl | rfl
              · rw [hS3] at hb; cases hb
              · rw [keep _ _ hSI hoI] at hb; cases hb
            · rw [kk b o h1 e] at hb; cases hb
        rcases hn'' with rfl | hn''
        · cases e : s.heap.get? s'.heap.objs.size with
          | none => rfl
          | some o =>
            have := hm.heap _ _ (by simpa using Ne.symm hIne) e
            exact absurd (Heap.lt_size this) (Nat.lt_irrefl _)
        · exact low _ hn''
end
section
variable {prog : Program} {w : World} {A : Around} {E : Value → Shared → Prop} {s : Shared} {l b : Addr} {items : Array Value} {cb : Nat}
theorem dl_sum_lists {Q : Value → Shared → Prop} (hh : A.handled = none) (hl : s.heap.IsList l items) (qs : Nat → Addr) (xss : Nat → List Value) (cs : Nat → Nat) (hval : ∀ i, i < items.size → items[i]? = some (.ref (qs i)))
    (hq : ∀ j, j < items.size → PySem.IsL s.heap (qs j) (xss j).toArray (cs j)) (hb : PySem.IsL s.heap b #[] cb) (hz : (catFrom xss 0 items.size).length ≤ sizeLine)
    (h : ∀ h' tk p' c', (∀ b o, s.heap.get? b = some o → h'.get? b = some o) → PySem.IsL h' p' (catFrom xss 0 items.size).toArray c' → (p' = b ∨ s.heap.get? p' = none) → Q (.ref p') { s with heap := h', toks := tk }) :
    wpAny (model prog w) A (call (.builtin "sum") [.ref l, .ref b]) Q E s := by
  refine call_function_tree F.kind_sum F.plain_sum F.entry_sum (dl_args_sum2 _ _) ?_
  unfold Builtin.«sum»
  simp only [List.length_cons, List.length_nil]
  rw [if_neg (by decide)]
  refine wpAny_bind (wpAny_of_eq (show Builtin.Builtins.bindParams "sum" ["start"] 0 ⟨[.ref b], []⟩ = pure [some (.ref b)] from rfl) ?_)
  refine wpAny_bind (wpAny_pyIter_list hl ?_)
  have hlt : l < s.heap.objs.size := by obtain ⟨_, e, _⟩ := id hl; exact Heap.lt_size e
  refine wpAny_bind (wpAny_pure ?_)
  simp only [List.forIn_cons, List.forIn_nil]
  have hb1 : PySem.IsL (s.heap.push { cls := .type "list_iterator", data := .fields #[.ref l, .int 0 0] }) b #[] cb := Heap.get?_push_of_some _ hb
  have ty : ∀ tk, Shared.TypeIs { s with heap := s.heap.push { cls := .type "list_iterator", data := .fields #[.ref l, .int 0 0] }, toks := tk } (.ref b) "list" := fun tk => ⟨_, hb1, rfl⟩
  refine wpAny_bind (wpAny_bind (wpAny_bind (wpAny_isInstance (T := "list") (b := false) (ty _) PySem.F.sub_list_str ?_)))
  simp only [Bool.false_eq_true, if_false]
  refine wpAny_pure (wpAny_bind (wpAny_bind (wpAny_isInstance (T := "list") (b := false) (ty _) PySem.F.sub_list_bytes ?_)))
  simp only [Bool.false_eq_true, if_false]
  refine wpAny_pure (wpAny_bind (wpAny_bind (wpAny_isInstance (T := "list") (b := false) (ty _) PySem.F.sub_list_bytearray ?_)))
  simp only [Bool.false_eq_true, if_false]
  refine wpAny_pure (wpAny_pure ?_)
  refine wpAny_bind (wpAny_newObj_type ?_)
  have sz : (s.heap.push { cls := .type "list_iterator", data := .fields #[.ref l, .int 0 0] }).objs.size = s.heap.objs.size + 1 := Heap.size_push _ _
  have lt : ∀ {a : Addr} {o : Obj}, s.heap.get? a = some o → a ≠ s.heap.objs.size ∧ a ≠ (s.heap.push { cls := .type "list_iterator", data := .fields #[.ref l, .int 0 0] }).objs.size := fun {a o} z => by
    have := Heap.lt_size z
    rw [sz]
    exact ⟨Nat.ne_of_lt this, Nat.ne_of_lt (Nat.lt_succ_of_lt this)⟩
  have up : ∀ {a : Addr} {o : Obj} (u : Obj), s.heap.get? a = some o → ((s.heap.push { cls := .type "list_iterator", data := .fields #[.ref l, .int 0 0] }).push u).get? a = some o := fun u z => Heap.get?_push_of_some _ (Heap.get?_push_of_some _ z)
  refine wpAny_pure ⟨plainId_quiet F.plain_sum_loop _, dl_sum_loop hh (Nat.ne_of_lt hlt) rfl qs xss cs hval (s.heap.push { cls := .type "list_iterator", data := .fields #[.ref l, .int 0 0] }).objs.size (by rw [sz]; exact Nat.succ_ne_self _) (by rw [sz]; exact Nat.ne_of_gt (Nat.lt_succ_of_lt hlt)) (fun i hi => (lt (hq i hi)).2) (fun i hi => (lt (hq i hi)).1)
    items.size 0 _ b [] cb _ (Nat.sub_zero _) (Nat.zero_le _) ⟨_, Heap.get?_push_of_some _ (Heap.get?_push_size _ rfl), rfl, rfl⟩ ((hl.push _).push _) (lt hb).1 (lt hb).2 (Heap.get?_push_size _ rfl) (up _ hb) (fun j hj => up _ (hq j hj)) (by simpa using hz) fun s' p' c' hm hl' hn' => ?_⟩
  obtain ⟨hp', g', d', tk', os'⟩ := s'
  obtain ⟨m1, m2, m3, m4, m5⟩ := hm
  dsimp only at m2 m3 m4
  subst m2 m3 m4
  refine h hp' tk' p' c' (fun a o z => m1 a o (by simp only [List.mem_cons, List.not_mem_nil, or_false, not_or]; exact ⟨(lt z).2, (lt z).1⟩) (up _ z)) (by simpa using hl') (hn'.imp id fun z => ?_)
  cases e : s.heap.get? p' with
  | none => rfl
  | some o => rw [up _ e] at z; cases z
end
end PySem
set_option Elab.async false
set_option linter.all false
set_option maxRecDepth 100000
set_option maxHeartbeats 4000000
namespace DL
open PySem PySem.Spec PyProof.Rows L2
/-! ### sum(lists, []) -/
def asL : List PyData → Option (List (List PyData))
  | [] => some []
  | .list ds :: r => (asL r).map (ds :: ·)
  | _ => none
def sumLF : Mem → List EV → Option PyData := fun _ xs => match xs with
  | [.d (.list ds), .d (.list [])] => match asL ds with
    | some dss => if dss.flatten.length ≤ sizeLine then some (.list dss.flatten) else none
    | none => none
  | _ => none
theorem catFrom_ge {f : Nat → List Value} : ∀ {k i : Nat} {l : List (List Value)}, l.length = k → (∀ j x, l[j]? = some x → f (i + j) = x) → catFrom f i k = l.flatten
  | 0, i, l, h, _ => by
    cases l with
    | nil => unfold catFrom; rfl
    | cons a r => cases h
  | k + 1, i, l, h, g => by
    cases l with
    | nil => cases h
    | cons a r =>
      unfold catFrom
      rw [List.flatten_cons, catFrom_ge (l := r) (by simpa using h) fun j x hj => by
        have := g (j + 1) x hj
        rw [← this]
        congr 1
        omega]
      rw [show f i = a from g 0 a rfl]
theorem asL_get : ∀ {ds : List PyData} {dss : List (List PyData)}, asL ds = some dss → ds = dss.map PyData.list
  | [], dss, h => by cases h; rfl
  | .list d :: r, dss, h => by
    simp only [asL] at h
    obtain ⟨q, hq, rfl⟩ := Option.map_eq_some_iff.mp h
    rw [asL_get hq]; rfl
  | .none :: _, _, h => by cases h
  | .bool _ :: _, _, h => by cases h
  | .int _ :: _, _, h => by cases h
  | .str _ :: _, _, h => by cases h
  | .tuple _ :: _, _, h => by cases h
  | .dict _ :: _, _, h => by cases h
theorem lists_raw {X : Cx} {pins : List (Addr × Obj)} {σ : L2.St} {H G : Hp} {s : Shared} (I : Inv X pins σ H s) (le : Same G H) : ∀ {ys : List V} {us : List Value} {dss : List (List PyData)}, DtA X.K G ys (dss.map PyData.list) → Vals ys us →
    ∃ (qs : List Addr) (vss : List (List V)) (xss : List (List Value)) (cs : List Nat), us = qs.map Value.ref ∧ qs.length = dss.length ∧ vss.length = dss.length ∧ xss.length = dss.length ∧ cs.length = dss.length ∧
      (∀ (j : Nat) (q : Addr) (x : List Value) (c : Nat), qs[j]? = some q → xss[j]? = some x → cs[j]? = some c → IsL s.heap q x.toArray c) ∧ Vals vss.flatten xss.flatten ∧ DtA X.K G vss.flatten dss.flatten
  | _, _, [], h, r => by
    cases h
    cases r
    exact ⟨[], [], [], [], rfl, rfl, rfl, rfl, rfl, fun j q x c h => by simp at h, .nil, .nil⟩
  | _, _, d :: dss, h, r => by
    cases h with
    | cons h1 h2 =>
    cases r with
    | cons r1 r2 =>
    obtain ⟨a, xs, rfl, g1, g2⟩ := dt_list h1
    obtain ⟨z, its, n, rv, hl, e⟩ := I.lstM (le _ _ g1)
    obtain ⟨qs, vss, xss, cs, e1, e2, e3, e4, e5, e6, e7, e8⟩ := lists_raw I le h2 r2
    cases (show _ = Value.ref a from r1)
    refine ⟨a :: qs, xs :: vss, its :: xss, n :: cs, by rw [e1]; rfl, by simp [e2], by simp [e3], by simp [e4], by simp [e5], fun j q x c h1 h2 h3 => ?_, ?_, ?_⟩
    · cases j with
      | zero => cases h1; cases h2; cases h3; exact e
      | succ j => exact e6 j q x c h1 h2 h3
    · rw [List.flatten_cons, List.flatten_cons]; exact rv.append e7
    · rw [List.flatten_cons, List.flatten_cons]; exact g2.app e8
theorem cd_sumL {X : Cx} (hc : X.calm = true) : CallR X (.builtin "sum") (rcb X.K sumLF) := by
  intro pins s σ H vs us Q I r h
  obtain ⟨ρ, m, xs, z, R, er, hz, k⟩ := h
  unfold sumLF at hz
  split at hz
  case h_2 => cases hz
  rename_i xs' ds
  split at hz
  case h_2 => cases hz
  rename_i dss hd
  split at hz
  case isFalse => cases hz
  rename_i hlen
  cases hz
  cases er with
  | cons er1 er2 =>
  cases er2 with
  | cons er2 er3 =>
  cases er3
  have er1' : Dt X.K (hid ρ m H) _ (.list ds) := er1
  have er2' : Dt X.K (hid ρ m H) _ (.list []) := er2
  rw [asL_get hd] at er1'
  obtain ⟨a, ys, rfl, g1, g2⟩ := dt_list er1'
  obtain ⟨b, ys2, rfl, g3, g4⟩ := dt_list er2'
  cases g4
  cases r with
  | cons r1 r2 =>
  cases r2 with
  | cons r2 r3 =>
  cases r3
  cases (show _ = Value.ref a from r1)
  cases (show _ = Value.ref b from r2)
  obtain ⟨z1, its, n, rv, hl, e⟩ := I.lstM (hid_le _ _ g1)
  obtain ⟨z2, its2, cb, rv2, hl2, e2⟩ := I.lstM (hid_le _ _ g3)
  have hi2 : its2 = [] := by cases rv2; rfl
  subst hi2
  obtain ⟨qs, vss, xss, cs, e3, l1, l2, l3, l4, e6, e7, e8⟩ := lists_raw I hid_le g2 rv
  have hn : its.toArray.size = dss.length := by rw [List.size_toArray, e3, List.length_map, l1]
  have gq : ∀ j, j < dss.length → ∃ q x c, qs[j]? = some q ∧ xss[j]? = some x ∧ cs[j]? = some c := fun j hj =>
    ⟨qs[j]'(by omega), xss[j]'(by omega), cs[j]'(by omega), List.getElem?_eq_getElem _, List.getElem?_eq_getElem _, List.getElem?_eq_getElem _⟩
  have hcat : catFrom (fun j => (xss[j]?).getD []) 0 its.toArray.size = xss.flatten := catFrom_ge (by rw [hn, l3]) fun j x hj => by rw [Nat.zero_add, hj]; rfl
  have hfl : xss.flatten.length = dss.flatten.length := by rw [← Paired.length e7]; exact DtA.len e8
  refine dl_sum_lists (I.ok.hd hc) (items := its.toArray) (cb := cb) ⟨_, e, rfl, n, rfl⟩ (fun j => (qs[j]?).getD 0) (fun j => (xss[j]?).getD []) (fun j => (cs[j]?).getD 0) (fun i hi => ?_) (fun j hj => ?_) e2 (by rw [hcat, hfl]; exact hlen) fun h' tk p' c' hk hp' hn' => ?_
  · obtain ⟨q, x, c, h1, h2, h3⟩ := gq i (by omega)
    simp only [h1, Option.getD_some]
    rw [e3]
    simp [h1]
  · obtain ⟨q, x, c, h1, h2, h3⟩ := gq j (by omega)
    simp only [h1, h2, h3, Option.getD_some]
    exact e6 j q x c h1 h2 h3
  · rw [hcat] at hp'
    rcases hn' with rfl | hn'
    · have := (hk _ _ e2).symm.trans hp'
      have hnil : xss.flatten = [] := by
        injection this with this
        injection this with _ _ this _
        injection this with this _
        have := congrArg Array.toList this
        simpa using this.symm
      have hd0 : dss.flatten = [] := List.eq_nil_of_length_eq_zero (by rw [← hfl, hnil]; rfl)
      rw [hd0] at k
      exact ⟨.ref _, H, I.kept hk, rfl, k _ _ .refl R (.lst g3 .nil)⟩
    · have hHn : H p' = none := I.hok.gone hn'
      refine ⟨.ref p', _, I.laidN (o := .lst vss.flatten) hk hn' hHn ⟨?_, xss.flatten, c', e7, hp'⟩, rfl, rop_new R k e8 hHn⟩
      rw [Paired.length e7, hfl]
      exact hlen
end DL
set_option Elab.async false
set_option linter.all false
set_option maxRecDepth 100000
set_option maxHeartbeats 4000000
namespace DL
open PySem PySem.Spec PyProof.Rows L2
/-! ### d.get(k, x) -/
def getDk (ds : List (PyData × PyData)) (k : Key) : Option PyData := (ds.find? fun p => decide (keyOf p.1 = some k)).map (·.2)
theorem keyOf_keyD (k : Key) : keyOf (keyD k) = some k := by cases k <;> rfl
theorem dtk_get {K : Frg} {G : Hp} {k : Key} : ∀ {ys : List (Key × V)} {ds : List (PyData × PyData)}, DtK K G ys ds → (∃ d v, getDk ds k = some d ∧ valV ys k = some v ∧ Dt K G v d) ∨ (getDk ds k = none ∧ valV ys k = none)
  | _, _, .nil => .inr ⟨rfl, rfl⟩
  | (k1, v) :: ys, _, .cons h q => by
    unfold getDk valV
    rw [List.find?_cons, List.find?_cons, keyOf_keyD]
    by_cases hk : k1 = k
    · simp only [hk, decide_true]
      exact .inl ⟨_, v, rfl, rfl, h⟩
    · have h2 : ¬ (some k1 = some k) := fun z => hk (Option.some.inj z)
      simp only [hk, h2, decide_false]
      exact dtk_get q
theorem kv_none {K : Frg} {G : Hp} {k : Key} : ∀ {ys : List (Key × V)} {kvs : List (Key × PyData)}, KvR K G ys kvs → getP kvs k = none → valV ys k = none
  | _, _, .nil, _ => rfl
  | (k1, v) :: ys, (k2, d2) :: kvs, .cons h q, e => by
    obtain ⟨h1, h2⟩ := h
    have h1' : k1 = k2 := h1
    subst h1'
    unfold getP at e
    unfold valV
    rw [List.find?_cons] at e ⊢
    by_cases hk : k1 = k
    · simp only [hk, decide_true] at e
      cases e
    · simp only [hk, decide_false] at e ⊢
      exact kv_none q e
def eGetD (f g h : ME) : ME := fun e m => match f e m with
  | some (.d (.dict ds), m1) => match g e m1 with
    | some (.d x, m2) => match h e m2 with
      | some (.d z, m3) => match keyOf x with
        | some k => some (.d ((getDk ds k).getD z), m3)
        | none => none
      | _ => none
    | _ => none
  | some (.l i, m1) => match m1[i]? with
    | some (.dct _) => match g e m1 with
      | some (.d x, m2) => match h e m2 with
        | some (.d z, m3) => match m3[i]? with
          | some (.dct kvs) => match keyOf x with
            | some k => some (.d ((getP kvs k).getD z), m3)
            | none => none
          | _ => none
        | _ => none
      | _ => none
    | _ => none
  | _ => none
section
variable {X : Cx} {o a b : Expr} {f g h : ME} {pos apos : Pos}
theorem q_getD (hu : X.A.units + 1 < cLine) (ho : PE X o (rd X.K f)) (ha : PE X a (rd X.K g)) (hb : PE X b (rd X.K h)) (hm : M2 X o "get" apos a b pos := by exact ⟨by rfl, by rfl, by rfl, by rfl⟩) :
    PE X (.Call (.Attribute o "get" apos) [a, b] [] pos) (rd X.K (eGetD f g h)) :=
  PE.imp (pe_dget2 hu ho ha hb hm) fun σ H Q ⟨ρ, e, m, R, E, r, m', hr, k⟩ => by
    unfold eGetD at hr
    split at hr
    · rename_i ds m1 q1
      split at hr
      case h_2 => cases hr
      rename_i x m2 q2
      split at hr
      case h_2 => cases hr
      rename_i z m3 q3
      split at hr
      case h_2 => cases hr
      rename_i kk q4
      cases hr
      refine rd_mk R E q1 fun v1 H1 ρ1 g1 R1 E1 r1 => ?_
      have r1' : Dt X.K (hid ρ1 m1 H1) v1 (.dict ds) := r1
      cases r1' with
      | dic h1 h2 =>
      refine ⟨_, rfl, .inl ⟨_, .inl (hid_le _ _ h1)⟩, ?_⟩
      refine rd_mk R1 E1 q2 fun v2 H2 ρ2 g2 R2 E2 r2 => ?_
      refine rd_mk R2 E2 q3 fun v3 H3 ρ3 g3 R3 E3 r3 => ?_
      have g23 := g2.trans g3
      have h1' := g23.same _ _ h1
      have h2' := DtK.mono g23.same _ h2
      have r3' : Dt X.K (hid ρ3 m' H3) v3 z := r3
      refine ⟨_, .inl ⟨_, kk, .inl (hid_le _ _ h1'), keyOf_v r2 q4, rfl⟩, ?_⟩
      rcases dtk_get (k := kk) h2' with ⟨d, v, e1, e2, e3⟩ | ⟨e1, e2⟩
      · rw [e2]
        rw [e1] at k
        exact k _ H3 ρ3 (g1.trans g23) R3 e3
      · rw [e2]
        rw [e1] at k
        exact k _ H3 ρ3 (g1.trans g23) R3 r3'
    · rename_i i m1 q1
      split at hr
      case h_2 => cases hr
      rename_i kv0 q0
      split at hr
      case h_2 => cases hr
      rename_i x m2 q2
      split at hr
      case h_2 => cases hr
      rename_i z m3 q3
      split at hr
      case h_2 => cases hr
      rename_i kvs q5
      split at hr
      case h_2 => cases hr
      rename_i kk q4
      cases hr
      refine rd_mk R E q1 fun v1 H1 ρ1 g1 R1 E1 r1 => ?_
      obtain ⟨bb, b1, rfl⟩ := r1
      obtain ⟨ys0, y1, y2⟩ := R1.dct b1 q0
      refine ⟨bb, rfl, .inl ⟨_, .inl y1⟩, ?_⟩
      refine rd_mk R1 E1 q2 fun v2 H2 ρ2 g2 R2 E2 r2 => ?_
      refine rd_mk R2 E2 q3 fun v3 H3 ρ3 g3 R3 E3 r3 => ?_
      have g23 := g2.trans g3
      obtain ⟨ys, z1, z2⟩ := R3.dct (pre_get g23.pre b1) q5
      have r3' : Dt X.K (hid ρ3 m' H3) v3 z := r3
      refine ⟨_, .inl ⟨_, kk, .inl z1, keyOf_v r2 q4, rfl⟩, ?_⟩
      cases e1 : getP kvs kk with
      | some d =>
        obtain ⟨w, w1, w2⟩ := kv_get z2 e1
        rw [w1]
        rw [e1] at k
        exact k _ H3 ρ3 (g1.trans g23) R3 w2
      | none =>
        rw [kv_none z2 e1]
        rw [e1] at k
        exact k _ H3 ρ3 (g1.trans g23) R3 r3'
    · cases hr
end

/-! ### a written dict of the module, texts to numbers -/
def KvsLit (P : Params) : List DictEntry → List (Str × Int) → Prop
  | [], [] => True
  | e :: r, (x, i) :: q => ((∃ t, e.key = .str x t) ∧ e.hash = PyData.keyHash P x ∧ ∃ t, e.val = .int i t) ∧ KvsLit P r q
  | _, _ => False
structure DicC (K : Frg) (w : World) (mg : Str → Option Value) (x : Str) (kvs : List (Str × Int)) : Prop where
  ex : ∃ (p : Addr) (es : Array DictEntry) (n : Nat), mg x = some (.ref p) ∧ K.lookup p = some ⟨.type "dict", none, .dict es n, #[]⟩ ∧ KvsLit w.params es.toList kvs ∧ (p == sysModules) = false
theorem KvsLit.keys {P : Params} : ∀ {l : List DictEntry} {kvs : List (Str × Int)}, KvsLit P l kvs → PySem.W.KeysLit P l
  | [], [], _ => trivial
  | e :: r, (x, i) :: q, ⟨⟨⟨t, h1⟩, h2, _⟩, h⟩ => ⟨⟨x, t, h1, h2⟩, h.keys⟩
  | [], _ :: _, h => h.elim
  | _ :: _, [], h => h.elim
def kvGet (kvs : List (Str × Int)) (z : Str) : Option Int := (kvs.find? fun p => decide (p.1 = z)).map (·.2)
theorem KvsLit.find {P : Params} {z : Str} : ∀ {l : List DictEntry} {kvs : List (Str × Int)}, KvsLit P l kvs → (∃ i t, kvGet kvs z = some i ∧ (l.find? fun e => Value.isStrOf z e.key).map (·.val) = some (.int i t)) ∨ (kvGet kvs z = none ∧ (l.find? fun e => Value.isStrOf z e.key).map (·.val) = none)
  | [], [], _ => .inr ⟨rfl, rfl⟩
  | e :: r, (x, i) :: q, ⟨⟨⟨t, h1⟩, _, ⟨t2, h2⟩⟩, h⟩ => by
    unfold kvGet
    rw [List.find?_cons, List.find?_cons, h1]
    by_cases hx : x = z
    · have e1 : Value.isStrOf z (.str x t) = true := by simp [Value.isStrOf, hx]
      simp only [hx, decide_true]
      rw [← hx] at e1 ⊢
      simp only [e1]
      exact .inl ⟨i, t2, rfl, by rw [Option.map_some, h2]⟩
    · have e1 : Value.isStrOf z (.str x t) = false := by simp [Value.isStrOf, hx]
      simp only [hx, decide_false, e1]
      exact h.find
  | [], _ :: _, h => h.elim
  | _ :: _, [], h => h.elim
theorem KvsLit.findBy {P : Params} {z : Str} {es : Array DictEntry} {kvs : List (Str × Int)} (h : KvsLit P es.toList kvs) : (∃ i t, kvGet kvs z = some i ∧ findBy Value.isStrOf es z = some (.int i t)) ∨ (kvGet kvs z = none ∧ PySem.findBy Value.isStrOf es z = none) := by
  obtain ⟨l⟩ := es
  have := KvsLit.find (z := z) h
  unfold PySem.findBy
  rw [List.find?_toArray]
  exact this
def eInC (kvs : List (Str × Int)) (f : ME) : ME := fun e m => match f e m with
  | some (.d (.str z), m1) => some (.d (.bool (kvGet kvs z).isSome), m1)
  | _ => none
def eIxC (kvs : List (Str × Int)) (f : ME) : ME := fun e m => match f e m with
  | some (.d (.str z), m1) => match kvGet kvs z with
    | some i => some (.d (.int i), m1)
    | none => none
  | _ => none
def rInC (p : Addr) (kvs : List (Str × Int)) : R2 := fun x y H Q => ∃ z, x = .str z ∧ y = .ref p ∧ Q (.bl (kvGet kvs z).isSome) H
def rIxC (p : Addr) (kvs : List (Str × Int)) : R2 := fun x y H Q => ∃ z i, x = .ref p ∧ y = .str z ∧ kvGet kvs z = some i ∧ Q (.int i) H
section
variable {X : Cx} {a : Expr} {f : ME} {x : Str} {px pos : Pos} {kvs : List (Str × Int)}
theorem q_inC (D : DicC X.K X.w X.mg x kvs) (hg : Gl X x) (ha : PE X a (rd X.K f)) (hd : (x == ("__debug__" : Str)) = false := by decide) (hm : behindInMarks .In (.Name x px) = false := by first | exact nobehind _ (by decide) (by decide) | rfl) :
    PE X (.Compare a [.In] [.Name x px] pos) (rd X.K (eInC kvs f)) := by
  obtain ⟨p, es, n, mx, hl, hk, low⟩ := D.ex
  have op : OpR X (compareOp .In) (rInC p kvs) := by
    intro pins s σ H y y2 v u Q I rx ry h
    obtain ⟨z, rfl, rfl, q⟩ := h
    obtain ⟨t, rfl⟩ := (show ∃ t, v = Value.str z t from rx)
    cases (show u = Value.ref p from ry)
    have hm' := PySem.W.mapOf_K (prog := X.prog) (w := X.w) I.kIn hl hk.keys
    refine wpAny_in_of (strKind_is X.prog X.w z t) low hm' ?_
    rcases hk.findBy (z := z) with ⟨i, t2, e1, e2⟩ | ⟨e1, e2⟩
    · rw [e1] at q; rw [e2]; exact ⟨.bl true, H, I.tok _, rfl, q⟩
    · rw [e1] at q; rw [e2]; exact ⟨.bl false, H, I.tok _, rfl, q⟩
  refine PE.imp (pe_cmpR op ha (pe_glob hg mx (v := .ref p) rfl hd) hm) fun σ H Q ⟨ρ, e, m, R, E, r, m', hr, k⟩ => ?_
  unfold eInC at hr
  split at hr
  case h_2 => cases hr
  rename_i z m1 h1
  cases hr
  refine rd_mk R E h1 fun v H1 ρ1 g1 R1 E1 r1 => ?_
  have r1' : Dt X.K (hid ρ1 _ H1) v (.str z) := r1
  cases r1'
  exact ⟨z, rfl, rfl, k _ H1 ρ1 g1 R1 (.bl _)⟩
theorem q_ixC (D : DicC X.K X.w X.mg x kvs) (hg : Gl X x) (ha : PE X a (rd X.K f)) (hd : (x == ("__debug__" : Str)) = false := by decide) (hs : PlainIx a := by intro _ _; rfl) :
    PE X (.Subscript (.Name x px) a pos) (rd X.K (eIxC kvs f)) := by
  obtain ⟨p, es, n, mx, hl, hk, low⟩ := D.ex
  have op : IxR X (rIxC p kvs) := by
    intro value slice pins s σ H y y2 v u Q I rx ry h hs
    obtain ⟨z, i, rfl, rfl, hi, q⟩ := h
    obtain ⟨t, rfl⟩ := (show ∃ t, u = Value.str z t from ry)
    cases (show v = Value.ref p from rx)
    have hm' := PySem.W.mapOf_K (prog := X.prog) (w := X.w) I.kIn hl hk.keys
    rcases hk.findBy (z := z) with ⟨j, t2, e1, e2⟩ | ⟨e1, e2⟩
    · rw [e1] at hi
      cases hi
      exact tail_any hm'.typeIs slot_dict_getitem.lookup (wpAny_getItem_of (strKind_is X.prog X.w z t) hm' e2 ⟨.int i, H, I.tok _, ⟨_, rfl⟩, q⟩) hs
    · rw [e1] at hi; cases hi
  refine PE.imp (pe_ix op (pe_glob hg mx (v := .ref p) rfl hd) ha hs) fun σ H Q ⟨ρ, e, m, R, E, r, m', hr, k⟩ => ?_
  unfold eIxC at hr
  split at hr
  case h_2 => cases hr
  rename_i z m1 h1
  split at hr
  case h_2 => cases hr
  rename_i i hi
  cases hr
  refine rd_mk R E h1 fun v H1 ρ1 g1 R1 E1 r1 => ?_
  have r1' : Dt X.K (hid ρ1 _ H1) v (.str z) := r1
  cases r1'
  exact ⟨z, i, rfl, rfl, hi, k _ H1 ρ1 g1 R1 (.int _)⟩
end

/-! ### while -/
def whL (c : MB) (b : MS) : Nat → MS
  | 0, _, _ => none
  | n + 1, e, m => match c e m with
    | some (false, m1) => some (.nx e, m1)
    | some (true, m1) => match b e m1 with
      | some (.nx e2, m2) => whL c b n e2 m2
      | some (.ct e2, m2) => whL c b n e2 m2
      | some (.bk e2, m2) => some (.nx e2, m2)
      | some (.rt r, m2) => some (.rt r, m2)
      | none => none
    | none => none
theorem whL_up {c : MB} {b : MS} : ∀ {n k : Nat} {e : Env'} {m : Mem} {r : Out × Mem}, whL c b n e m = some r → whL c b (n + k) e m = some r
  | 0, k, e, m, r, h => by cases h
  | n + 1, k, e, m, r, h => by
    rw [show n + 1 + k = (n + k) + 1 by omega]
    unfold whL at h ⊢
    split at h
    · exact h
    · split at h
      · exact whL_up h
      · exact whL_up h
      · exact h
      · exact h
      · cases h
    · cases h
open Classical in
noncomputable def sWhile (c : MB) (b : MS) : MS := fun e m => if h : ∃ n, (whL c b n e m).isSome = true then whL c b h.choose e m else none
theorem sWhile_of {c : MB} {b : MS} {n : Nat} {e : Env'} {m : Mem} {r : Out × Mem} (h : whL c b n e m = some r) : sWhile c b e m = some r := by
  have ex : ∃ n, (whL c b n e m).isSome = true := ⟨n, by rw [h]; rfl⟩
  unfold sWhile
  rw [dif_pos ex]
  have s := ex.choose_spec
  obtain ⟨r2, h2⟩ := Option.isSome_iff_exists.mp s
  rw [h2]
  have a := whL_up (k := ex.choose) h
  have b := whL_up (k := n) h2
  rw [Nat.add_comm] at b
  rw [← b, a]
theorem sWhile_is {c : MB} {b : MS} {e : Env'} {m : Mem} {r : Out × Mem} (h : sWhile c b e m = some r) : ∃ n, whL c b n e m = some r := by
  unfold sWhile at h
  split at h
  · exact ⟨_, h⟩
  · cases h
theorem q_while {X : Cx} {c : Expr} {body : List Stmt} {cb : MB} {b : MS} {pos : Pos} (hp : PassesOwn (model X.prog X.w) X.A X.env X.xe) (hc : PT X c (rb X.K cb)) (hb : PSs X body (rs X.K b)) : PS X (.While c body [] pos) (rs X.K (sWhile cb b)) := by
  refine PS.imp (ps_while hp hc hb) fun D σ H ⟨ρ, e, m, R, E, o, m', hr, k⟩ => ?_
  obtain ⟨n, hn⟩ := sWhile_is hr
  refine ⟨fun n σ2 H2 => ∃ ρ2 e2 m2, RelM X.K H2 ρ2 m2 ∧ EnvR X.K (hid ρ2 m2 H2) ρ2 σ2 e2 ∧ ∃ o m', whL cb b n e2 m2 = some (o, m') ∧ Fin' X.K ρ2 m2 H2 D m' o, ⟨n, ρ, e, m, R, E, o, m', hn, k⟩, ?_⟩
  rintro n σ2 H2 ⟨ρ2, e2, m2, R2, E2, o2, m3, hf, k2⟩
  cases n with
  | zero => cases hf
  | succ n =>
    unfold whL at hf
    split at hf
    · rename_i m4 h4
      cases hf
      refine rb_mk R2 E2 h4 fun H5 ρ5 g5 R5 E5 => ?_
      rw [if_neg (by decide)]
      exact k2 _ _ _ g5 R5 E5
    · rename_i m4 h4
      refine rb_mk R2 E2 h4 fun H5 ρ5 g5 R5 E5 => ?_
      rw [if_pos rfl]
      refine ⟨fun σ' H' => ∃ ρ' e' m', RelM X.K H' ρ' m' ∧ EnvR X.K (hid ρ' m' H') ρ' σ' e' ∧ ∃ o m4, whL cb b n e' m' = some (o, m4) ∧ Fin' X.K ρ' m' H' D m4 o, fun σ' H' w => ⟨n, Nat.lt_succ_self n, w⟩, ?_⟩
      have k5 := k2.gr g5
      split at hf
      · rename_i e6 m6 h6
        exact ⟨ρ5, e2, m4, R5, E5, _, m6, h6, fun σ6 H6 ρ6 g6 R6 E6 => ⟨ρ6, e6, m6, R6, E6, o2, m3, hf, k5.gr g6⟩⟩
      · rename_i e6 m6 h6
        exact ⟨ρ5, e2, m4, R5, E5, _, m6, h6, fun σ6 H6 ρ6 g6 R6 E6 => ⟨ρ6, e6, m6, R6, E6, o2, m3, hf, k5.gr g6⟩⟩
      · rename_i e6 m6 h6
        cases hf
        exact ⟨ρ5, e2, m4, R5, E5, _, _, h6, k5⟩
      · rename_i r6 m6 h6
        cases hf
        exact ⟨ρ5, e2, m4, R5, E5, _, _, h6, k5⟩
      · cases hf
    · cases hf
end DL
set_option Elab.async false
set_option linter.all false
set_option maxRecDepth 10000
set_option maxHeartbeats 4000000
namespace DL
open PySem PySem.Spec PyProof.Rows L2
def strK (r : EV) (Q : Str → Prop) : Prop := match r with
  | .d (.str z) => Q z
  | _ => False
theorem strK_s {z : Str} {Q : Str → Prop} : strK (.d (.str z)) Q ↔ Q z := Iff.rfl
def gdK (r : EV) (A : List (PyData × PyData) → Prop) (B : Nat → Prop) : Prop := match r with
  | .d (.dict ds) => A ds
  | .l i => B i
  | _ => False
theorem gdK_d {ds : List (PyData × PyData)} {A : List (PyData × PyData) → Prop} {B : Nat → Prop} : gdK (.d (.dict ds)) A B ↔ A ds := Iff.rfl
theorem gdK_l {i : Nat} {A : List (PyData × PyData) → Prop} {B : Nat → Prop} : gdK (.l i) A B ↔ B i := Iff.rfl
section
variable {f g h : ME} {c : MB} {b : MS} {e : Env'} {m : Mem} {Q : EV → Mem → Prop} {QS : Out → Mem → Prop} {kvs : List (Str × Int)}
theorem wE_inC : wE (eInC kvs f) e m Q ↔ wE f e m fun r m1 => strK r fun z => Q (.d (.bool (kvGet kvs z).isSome)) m1 := by
  unfold wE eInC
  cases f e m with
  | none => rfl
  | some p =>
    obtain ⟨r, m1⟩ := p
    simp only [oK]
    cases r with
    | d x => cases x <;> rfl
    | _ => rfl
theorem wE_ixC : wE (eIxC kvs f) e m Q ↔ wE f e m fun r m1 => strK r fun z => oK (kvGet kvs z) fun i => Q (.d (.int i)) m1 := by
  unfold wE eIxC
  cases f e m with
  | none => rfl
  | some p =>
    obtain ⟨r, m1⟩ := p
    simp only [oK]
    cases r with
    | d x =>
      cases x with
      | str z => simp only [strK]; cases kvGet kvs z <;> rfl
      | _ => rfl
    | _ => rfl
theorem wE_getD : wE (eGetD f g h) e m Q ↔ wE f e m fun r m1 => gdK r
    (fun ds => wE g e m1 fun x m2 => datK x fun x => wE h e m2 fun z m3 => datK z fun z => oK (keyOf x) fun k => Q (.d ((getDk ds k).getD z)) m3)
    (fun i => dctK m1[i]? fun _ => wE g e m1 fun x m2 => datK x fun x => wE h e m2 fun z m3 => datK z fun z => dctK m3[i]? fun kvs => oK (keyOf x) fun k => Q (.d ((getP kvs k).getD z)) m3) := by
  unfold wE eGetD
  cases f e m with
  | none => rfl
  | some p =>
    obtain ⟨r, m1⟩ := p
    simp only [oK]
    cases r with
    | d x =>
      cases x with
      | dict ds =>
        simp only [gdK]
        cases g e m1 with
        | none => rfl
        | some p =>
          obtain ⟨y, m2⟩ := p
          cases y with
          | d y =>
            simp only [datK]
            cases h e m2 with
            | none => rfl
            | some p =>
              obtain ⟨z, m3⟩ := p
              cases z with
              | d z => simp only [datK]; cases keyOf y <;> rfl
              | _ => rfl
          | _ => rfl
      | _ => rfl
    | l i =>
      simp only [gdK]
      cases m1[i]? with
      | none => rfl
      | some o =>
        cases o with
        | dct kv0 =>
          simp only [dctK]
          cases g e m1 with
          | none => rfl
          | some p =>
            obtain ⟨y, m2⟩ := p
            cases y with
            | d y =>
              simp only [datK]
              cases h e m2 with
              | none => rfl
              | some p =>
                obtain ⟨z, m3⟩ := p
                cases z with
                | d z =>
                  simp only [datK]
                  cases m3[i]? with
                  | none => rfl
                  | some o2 =>
                    cases o2 with
                    | dct kv1 => simp only; cases keyOf y <;> rfl
                    | _ => rfl
                | _ => rfl
            | _ => rfl
        | _ => rfl
    | _ => rfl
theorem sumLF_of {ds : List PyData} {dss : List (List PyData)} (h : asL ds = some dss) (l : dss.flatten.length ≤ sizeLine) : sumLF m [.d (.list ds), .d (.list [])] = some (.list dss.flatten) := by
  unfold sumLF
  simp only [h, l, if_true]
theorem asL_map : ∀ (dss : List (List PyData)), asL (dss.map PyData.list) = some dss
  | [] => rfl
  | d :: r => by simp only [List.map_cons, asL, asL_map r, Option.map_some]
/-- a while by what holds at each turn and falls -/
theorem wS_while (J : Nat → Env' → Mem → Prop) (step : ∀ n e m, J n e m → wB c e m fun k m1 => if k = true then wS b e m1 fun o m2 => match o with
    | .nx e2 => ∃ k, k < n ∧ J k e2 m2
    | .ct e2 => ∃ k, k < n ∧ J k e2 m2
    | .bk e2 => QS (.nx e2) m2
    | .rt r => QS (.rt r) m2 else QS (.nx e) m1) (n : Nat) (h : J n e m) : wS (sWhile c b) e m QS := by
  have key : ∀ n e m, J n e m → ∃ N r, whL c b N e m = some r ∧ QS r.1 r.2 := by
    intro n
    induction n using Nat.strongRecOn with
    | ind n ih =>
      intro e m h
      have h1 := step n e m h
      unfold wB at h1
      cases q : c e m with
      | none => rw [q] at h1; exact h1.elim
      | some p =>
        obtain ⟨k, m1⟩ := p
        rw [q] at h1
        simp only [oK] at h1
        cases k with
        | false =>
          simp only [Bool.false_eq_true, if_false] at h1
          exact ⟨1, _, by unfold whL; rw [q], h1⟩
        | true =>
          simp only [if_true] at h1
          unfold wS at h1
          cases q2 : b e m1 with
          | none => rw [q2] at h1; exact h1.elim
          | some p =>
            obtain ⟨o, m2⟩ := p
            rw [q2] at h1
            simp only [oK] at h1
            cases o with
            | nx e2 =>
              obtain ⟨k, hk, hJ⟩ := h1
              obtain ⟨N, r, h3, h4⟩ := ih k hk e2 m2 hJ
              exact ⟨N + 1, r, by unfold whL; rw [q]; simp only [q2]; exact h3, h4⟩
            | ct e2 =>
              obtain ⟨k, hk, hJ⟩ := h1
              obtain ⟨N, r, h3, h4⟩ := ih k hk e2 m2 hJ
              exact ⟨N + 1, r, by unfold whL; rw [q]; simp only [q2]; exact h3, h4⟩
            | bk e2 => exact ⟨1, (.nx e2, m2), by unfold whL; rw [q]; simp only [q2], h1⟩
            | rt r => exact ⟨1, (.rt r, m2), by unfold whL; rw [q]; simp only [q2], h1⟩
  obtain ⟨N, r, h1, h2⟩ := key n e m h
  unfold wS
  rw [sWhile_of h1]
  exact h2
end
end DL
set_option Elab.async false
set_option linter.all false
set_option maxRecDepth 10000
set_option maxHeartbeats 4000000
namespace DL
open PySem PySem.Spec PyProof.Rows L2
/-! ### whether a list holds a tuple -/
def inDp : PyData → PyData → Option PyData := fun x y => match y with
  | .list ds => if SeqAt.shaped x = true ∧ SeqAt.shaped (.list ds) = true then some (.bool (ds.any fun z => PyData.eqv z x)) else none
  | _ => none
def notinDp : PyData → PyData → Option PyData := fun x y => match y with
  | .list ds => if SeqAt.shaped x = true ∧ SeqAt.shaped (.list ds) = true then some (.bool (!ds.any fun z => PyData.eqv z x)) else none
  | _ => none
theorem od_inDp {X : Cx} (hu : X.A.units + 65 < cLine) : OpR X (compareOp .In) (ropF X.K inDp) := by
  intro pins s σ H x y v u Q I rx ry h
  obtain ⟨ρ, m, dx, dy, z, R, hx, hy, hz, k⟩ := h
  unfold inDp at hz
  split at hz
  · split at hz
    · cases hz
      rename_i hs
      exact op_inD hu pins s σ H _ _ v u Q I rx ry ⟨dx, _, Dt.dp dx (canLay_sh hs.1) hx, Dt.dp _ (canLay_sh hs.2) hy, hs.1, hs.2, rop_k R k (.bl _)⟩
    · cases hz
  · cases hz
theorem od_notinDp {X : Cx} (hu : X.A.units + 65 < cLine) : OpR X (compareOp .NotIn) (ropF X.K notinDp) := by
  intro pins s σ H x y v u Q I rx ry h
  obtain ⟨ρ, m, dx, dy, z, R, hx, hy, hz, k⟩ := h
  unfold notinDp at hz
  split at hz
  · split at hz
    · cases hz
      rename_i hs
      exact op_notInD hu pins s σ H _ _ v u Q I rx ry ⟨dx, _, Dt.dp dx (canLay_sh hs.1) hx, Dt.dp _ (canLay_sh hs.2) hy, hs.1, hs.2, rop_k R k (.bl _)⟩
    · cases hz
  · cases hz
end DL
set_option Elab.async false
set_option linter.all false
set_option maxRecDepth 100000
set_option maxHeartbeats 8000000
namespace Lw
open PySem PySem.Spec PyProof.Rows L2 DL
def topS (i : Nat) : Stmt := PySem.Challenge.pw_spoolrounds_k20_what_is_a_lot.main.body.getD i (.Pass ⟨0, 0, 0, 0⟩)
/-- the names that the text leans on -/
structure Tx (K : Frg) (w : World) (mg : Str → Option Value) (base : Heap) : Prop where
  sys : HasSys base
  b_abs : mg "abs" = none
  b_all : mg "all" = none
  b_bool : mg "bool" = none
  b_int : mg "int" = none
  b_isinstance : mg "isinstance" = none
  b_len : mg "len" = none
  b_list : mg "list" = none
  b_max : mg "max" = none
  b_min : mg "min" = none
  b_range : mg "range" = none
  b_repr : mg "repr" = none
  b_sorted : mg "sorted" = none
  b_str : mg "str" = none
  b_sum : mg "sum" = none
  b_tuple : mg "tuple" = none
  g_MOST_SPOTS : ∃ t, mg "MOST_SPOTS" = some (.int 2000000000000000000 t)
structure Cx_Lay (K : Frg) (A : Addr) : Prop where
  cls : ClsAt K "Lay" A
  n__pieces : NoAttr K A "_pieces"
  n__total : NoAttr K A "_total"
end Lw
set_option Elab.async false
set_option linter.all false
set_option maxRecDepth 100000
namespace Lw
open PySem PySem.Spec PyProof.Rows L2 DL
noncomputable def b__law_pen : MS :=
  (sRet (eDct [((Str.ofString "cells"), (eCB (c1 listD) (aCons (eSlF (eVar 0) oNo (oYes (eC (.int 63)))) aNil))), ((Str.ofString "turn"), (eC (.int 0))), ((Str.ofString "left"), (eC (.int 0)))]))
noncomputable def m__law_pen : MF := fnM 1 1 b__law_pen
end Lw
set_option Elab.async false
set_option linter.all false
set_option maxRecDepth 100000
set_option maxHeartbeats 8000000
namespace Lw
open PySem PySem.Spec PyProof.Rows L2 DL
section
variable {P : Program} {w : World} {K : Frg} {mg : Str → Option Value} {base : Heap}
/-! ### _law_pen -/
abbrev s__law_pen : Stmt := topS 30
abbrev N__law_pen : List Str := ["script"]
theorem sc__law_pen : FnScope N__law_pen ["script"] (defScope s__law_pen) := ⟨rfl, rfl, rfl, by decide +kernel, rfl, by decide +kernel, by decide +kernel⟩
theorem fn__law_pen {a : Addr} {fd : FuncData} (F : Fun K "_law_pen" "_law_pen" s__law_pen a fd) (T : Tx K w mg base) : FnG P w K mg base 1 a fd ["script"] m__law_pen := by
  have S := sc__law_pen
  unfold m__law_pen
  refine fng2 (k := 0) (b := b__law_pen) F S rfl rfl (by decide) ?_
  intro cdv A outer s H gd hr
  have rm := hr
  exact (qs_one (q_ret (q_dct (ps := [((Str.ofString "cells"), (eCB (c1 listD) (aCons (eSlF (eVar 0) oNo (oYes (eC (.int 63)))) aNil))), ((Str.ofString "turn"), (eC (.int 0))), ((Str.ofString "left"), (eC (.int 0)))]) (pps_cons pe_str (q_callTy cd_list rfl T.b_list (by decide +kernel) (qa_cons (q_sliceF (q_var (pv 0)) q_no (q_yes q_int)) qa_nil)) (pps_cons pe_str q_int (pps_cons pe_str q_int pps_nil))))))
theorem ok__law_pen {a : Addr} {fd : FuncData} (F : Fun K "_law_pen" "_law_pen" s__law_pen a fd) (M : mg "_law_pen" = some (.ref a)) (T : Tx K w mg base) : Has P w K mg base "_law_pen" 1 ["script"] m__law_pen :=
  ⟨a, fd, fn__law_pen F T  , M, F.kp, (F.binds (ps := ["script"]) fun _ _ _ _ _ _ us hl => match us, hl with | [_], _ => rfl)⟩
end
end Lw
set_option Elab.async false
set_option linter.all false
set_option maxRecDepth 100000
namespace Lw
open PySem PySem.Spec PyProof.Rows L2 DL
noncomputable def b__law_draw : MS :=
  (sSeq (sW [7] (sIf (bOf (eBin gtD (eGet (eVar 0) (eC (.str "left"))) (eC (.int 0)))) (sSeq (sSet 7 (eBin modD (eGet (eVar 0) (eC (.str "left"))) (eVar 1)))
    (sSeq (sPut (eBin fdivD (eGet (eVar 0) (eC (.str "left"))) (eVar 1)) (eVar 0) (eC (.str "left")))
    (sRet (eVar 7)))) sNil))
    (sSeq (sSet 2 (eGet (eVar 0) (eC (.str "turn"))))
    (sSeq (sPut (eBin addD (eVar 2) (eC (.int 1))) (eVar 0) (eC (.str "turn")))
    (sSeq (sSet 3 (eBin addD (eBin mulD' (eC (.int 31)) (eVar 2)) (eC (.int 11))))
    (sSeq (sIf (bOf (eBinF neD (eGet (eVar 0) (eC (.str "cells"))) (eLst aNil))) (sSet 3 (eBin ixD (eGet (eVar 0) (eC (.str "cells"))) (eBin modD (eVar 2) (eCB (c1 lenD) (aCons (eGet (eVar 0) (eC (.str "cells"))) aNil))))) sNil)
    (sSeq (sIf (bAnd (bOf (eBin ltD (eVar 2) (eCB (c1 lenD) (aCons (eGet (eVar 0) (eC (.str "cells"))) aNil)))) (bOf (eBin geD (eCB (c1 absD) (aCons (eVar 3) aNil)) (eBin powD (eC (.int 10)) (eC (.int 18)))))) (sSeq (sPut (eBin fdivD (eBin subD (eCB (c1 absD) (aCons (eVar 3) aNil)) (eBin powD (eC (.int 10)) (eC (.int 18)))) (eVar 1)) (eVar 0) (eC (.str "left")))
    (sRet (eBin modD (eBin subD (eCB (c1 absD) (aCons (eVar 3) aNil)) (eBin powD (eC (.int 10)) (eC (.int 18)))) (eVar 1)))) sNil)
    (sSeq (sSet 4 (eLst (aCons (eC (.int 2147483647)) (aCons (eC (.int 2147483629)) (aCons (eC (.int 2147483587)) (aCons (eC (.int 2147483579)) (aCons (eC (.int 2147483563)) aNil)))))))
    (sSeq (sSet 5 (eBin ixD (eVar 4) (eBin modD (eVar 2) (eC (.int 5)))))
    (sSeq (sSet 6 (eBin modD (eBin addD (eBin addD (eBin mulD' (eBin modD (eVar 3) (eVar 5)) (eC (.int 48271))) (eBin mulD' (eBin mulD' (eC (.int 39373)) (eVar 2)) (eVar 2))) (eC (.int 29))) (eVar 5)))
    (sSeq (sSet 6 (eBin modD (eBin mulD' (eVar 6) (eBin addD (eVar 6) (eC (.int 69621)))) (eBin ixD (eVar 4) (eBin modD (eBin addD (eVar 2) (eC (.int 2))) (eC (.int 5))))))
    (sRet (eBin modD (eBin fdivD (eBin modD (eBin mulD' (eVar 6) (eVar 6)) (eC (.int 2147483549))) (eC (.int 64))) (eVar 1)))))))))))))
noncomputable def m__law_draw : MF := fnD 2 8 b__law_draw
end Lw
set_option Elab.async false
set_option linter.all false
set_option maxRecDepth 100000
set_option maxHeartbeats 8000000
namespace Lw
open PySem PySem.Spec PyProof.Rows L2 DL
section
variable {P : Program} {w : World} {K : Frg} {mg : Str → Option Value} {base : Heap}
/-! ### _law_draw -/
abbrev s__law_draw : Stmt := topS 31
abbrev N__law_draw : List Str := ["pen", "many", "turn", "cell", "primes", "prime", "drawn", "digit"]
theorem sc__law_draw : FnScope N__law_draw ["pen", "many"] (defScope s__law_draw) := ⟨rfl, rfl, rfl, by decide +kernel, rfl, by decide +kernel, by decide +kernel⟩
theorem fn__law_draw {a : Addr} {fd : FuncData} (F : Fun K "_law_draw" "_law_draw" s__law_draw a fd) (T : Tx K w mg base) : FnG P w K mg base 1 a fd ["pen", "many"] m__law_draw := by
  have S := sc__law_draw
  unfold m__law_draw
  refine fnd2 (k := 0) (b := b__law_draw) F S rfl rfl (by decide) ?_
  intro cdv A outer s H gd hr
  have rm := hr
  exact (qs_cons (q_w (vs := [7]) (q_if (q_tcmp od_gt (q_get (room1 hr) (q_var (pv 0)) q_str) q_int) (qs_cons (q_set (i := 7) S.nd rfl (by first | exact Or.inl rfl | exact Or.inr rfl) (q_bin od_mod (q_get (room1 hr) (q_var (pv 0)) q_str) (q_var (pv 1))))
      (qs_cons (q_put (room1 hr) (q_var (pv 0)) q_str (q_bin od_fdiv (q_get (room1 hr) (q_var (pv 0)) q_str) (q_var (pv 1))))
      (qs_one (q_ret (q_var (pv 7)))))) qs_nil))
      (qs_cons (q_set (i := 2) S.nd rfl (by first | exact Or.inl rfl | exact Or.inr rfl) (q_get (room1 hr) (q_var (pv 0)) q_str))
      (qs_cons (q_put (room1 hr) (q_var (pv 0)) q_str (q_bin od_add (q_var (pv 2)) q_int))
      (qs_cons (q_set (i := 3) S.nd rfl (by first | exact Or.inl rfl | exact Or.inr rfl) (q_bin od_add (q_bin od_mul' q_int (q_var (pv 2))) q_int))
      (qs_cons (q_if (q_tcmpF (od_ne (room64 hr)) (q_get (room1 hr) (q_var (pv 0)) q_str) (q_lst qa_nil)) (qs_one (q_set (i := 3) S.nd rfl (by first | exact Or.inl rfl | exact Or.inr rfl) (q_ix (q_get (room1 hr) (q_var (pv 0)) q_str) (q_bin od_mod (q_var (pv 2)) (q_callB cd_len rfl T.b_len (by decide +kernel) (qa_cons (q_get (room1 hr) (q_var (pv 0)) q_str) qa_nil)))))) qs_nil)
      (qs_cons (q_if (PW.pt (q_tand (q_tcmp od_lt (q_var (pv 2)) (q_callB cd_len rfl T.b_len (by decide +kernel) (qa_cons (q_get (room1 hr) (q_var (pv 0)) q_str) qa_nil))) (q_tand1 (q_tcmp od_ge (q_callB cd_abs rfl T.b_abs (by decide +kernel) (qa_cons (q_var (pv 3)) qa_nil)) (q_bin od_pow q_int q_int))))) (qs_cons (q_put (room1 hr) (q_var (pv 0)) q_str (q_bin od_fdiv (q_bin od_sub (q_callB cd_abs rfl T.b_abs (by decide +kernel) (qa_cons (q_var (pv 3)) qa_nil)) (q_bin od_pow q_int q_int)) (q_var (pv 1))))
      (qs_one (q_ret (q_bin od_mod (q_bin od_sub (q_callB cd_abs rfl T.b_abs (by decide +kernel) (qa_cons (q_var (pv 3)) qa_nil)) (q_bin od_pow q_int q_int)) (q_var (pv 1)))))) qs_nil)
      (qs_cons (q_set (i := 4) S.nd rfl (by first | exact Or.inl rfl | exact Or.inr rfl) (q_lst (qa_cons q_int (qa_cons q_int (qa_cons q_int (qa_cons q_int (qa_cons q_int qa_nil)))))))
      (qs_cons (q_set (i := 5) S.nd rfl (by first | exact Or.inl rfl | exact Or.inr rfl) (q_ix (q_var (pv 4)) (q_bin od_mod (q_var (pv 2)) q_int)))
      (qs_cons (q_set (i := 6) S.nd rfl (by first | exact Or.inl rfl | exact Or.inr rfl) (q_bin od_mod (q_bin od_add (q_bin od_add (q_bin od_mul' (q_bin od_mod (q_var (pv 3)) (q_var (pv 5))) q_int) (q_bin od_mul' (q_bin od_mul' q_int (q_var (pv 2))) (q_var (pv 2)))) q_int) (q_var (pv 5))))
      (qs_cons (q_set (i := 6) S.nd rfl (by first | exact Or.inl rfl | exact Or.inr rfl) (q_bin od_mod (q_bin od_mul' (q_var (pv 6)) (q_bin od_add (q_var (pv 6)) q_int)) (q_ix (q_var (pv 4)) (q_bin od_mod (q_bin od_add (q_var (pv 2)) q_int) q_int))))
      (qs_one (q_ret (q_bin od_mod (q_bin od_fdiv (q_bin od_mod (q_bin od_mul' (q_var (pv 6)) (q_var (pv 6))) q_int) q_int) (q_var (pv 1)))))))))))))))
theorem ok__law_draw {a : Addr} {fd : FuncData} (F : Fun K "_law_draw" "_law_draw" s__law_draw a fd) (M : mg "_law_draw" = some (.ref a)) (T : Tx K w mg base) : Has P w K mg base "_law_draw" 1 ["pen", "many"] m__law_draw :=
  ⟨a, fd, fn__law_draw F T  , M, F.kp, (F.binds (ps := ["pen", "many"]) fun _ _ _ _ _ _ us hl => match us, hl with | [_, _], _ => rfl)⟩
end
end Lw
set_option Elab.async false
set_option linter.all false
set_option maxRecDepth 100000
namespace Lw
open PySem PySem.Spec PyProof.Rows L2 DL
noncomputable def b__law_pick : MS :=
  (sRet (eBin ixD (eVar 1) (eCall m__law_draw (aCons (eVar 0) (aCons (eCB (c1 lenD) (aCons (eVar 1) aNil)) aNil)))))
noncomputable def m__law_pick : MF := fnD 2 2 b__law_pick
end Lw
set_option Elab.async false
set_option linter.all false
set_option maxRecDepth 100000
set_option maxHeartbeats 8000000
namespace Lw
open PySem PySem.Spec PyProof.Rows L2 DL
section
variable {P : Program} {w : World} {K : Frg} {mg : Str → Option Value} {base : Heap}
/-! ### _law_pick -/
abbrev s__law_pick : Stmt := topS 32
abbrev N__law_pick : List Str := ["pen", "some"]
theorem sc__law_pick : FnScope N__law_pick ["pen", "some"] (defScope s__law_pick) := ⟨rfl, rfl, rfl, by decide +kernel, rfl, by decide +kernel, by decide +kernel⟩
theorem fn__law_pick {a : Addr} {fd : FuncData} (F : Fun K "_law_pick" "_law_pick" s__law_pick a fd) (T : Tx K w mg base) (H__law_draw : Has P w K mg base "_law_draw" 1 ["pen", "many"] m__law_draw) : FnG P w K mg base 2 a fd ["pen", "some"] m__law_pick := by
  have S := sc__law_pick
  unfold m__law_pick
  refine fnd2 (k := 1) (b := b__law_pick) F S rfl rfl (by decide) ?_
  intro cdv A outer s H gd hr
  have rm := hr
  exact (qs_one (q_ret (q_ix (q_var (pv 1)) (q_callH (H__law_draw.up (by decide)) gd rm rfl (qa_cons (q_var (pv 0)) (qa_cons (q_callB cd_len rfl T.b_len (by decide +kernel) (qa_cons (q_var (pv 1)) qa_nil)) qa_nil))))))
theorem ok__law_pick {a : Addr} {fd : FuncData} (F : Fun K "_law_pick" "_law_pick" s__law_pick a fd) (M : mg "_law_pick" = some (.ref a)) (T : Tx K w mg base) (H__law_draw : Has P w K mg base "_law_draw" 1 ["pen", "many"] m__law_draw) : Has P w K mg base "_law_pick" 2 ["pen", "some"] m__law_pick :=
  ⟨a, fd, fn__law_pick F T  H__law_draw, M, F.kp, (F.binds (ps := ["pen", "some"]) fun _ _ _ _ _ _ us hl => match us, hl with | [_, _], _ => rfl)⟩
end
end Lw
set_option Elab.async false
set_option linter.all false
set_option maxRecDepth 100000
namespace Lw
open PySem PySem.Spec PyProof.Rows L2 DL
noncomputable def b__law_turned_about : MS :=
  (sSeq (sSet 2 (eListL (eVar 1)))
    (sRet (eFrz (eLc (iRg1 (eCB (c1 lenD) (aCons (eVar 2) aNil))) (gNm 3) cYes (ePop (eVar 2) (eCall m__law_draw (aCons (eVar 0) (aCons (eCB (c1 lenD) (aCons (eVar 2) aNil)) aNil)))) [3]))))
noncomputable def m__law_turned_about : MF := fnD 2 4 b__law_turned_about
end Lw
set_option Elab.async false
set_option linter.all false
set_option maxRecDepth 100000
set_option maxHeartbeats 8000000
namespace Lw
open PySem PySem.Spec PyProof.Rows L2 DL
section
variable {P : Program} {w : World} {K : Frg} {mg : Str → Option Value} {base : Heap}
/-! ### _law_turned_about -/
abbrev s__law_turned_about : Stmt := topS 34
abbrev N__law_turned_about : List Str := ["pen", "some", "left", "k"]
theorem sc__law_turned_about : FnScope N__law_turned_about ["pen", "some"] (defScope s__law_turned_about) := ⟨rfl, rfl, rfl, by decide +kernel, rfl, by decide +kernel, by decide +kernel⟩
theorem fn__law_turned_about {a : Addr} {fd : FuncData} (F : Fun K "_law_turned_about" "_law_turned_about" s__law_turned_about a fd) (T : Tx K w mg base) (H__law_draw : Has P w K mg base "_law_draw" 1 ["pen", "many"] m__law_draw) : FnG P w K mg base 2 a fd ["pen", "some"] m__law_turned_about := by
  have S := sc__law_turned_about
  unfold m__law_turned_about
  refine fnd2 (k := 1) (b := b__law_turned_about) F S rfl rfl (by decide) ?_
  intro cdv A outer s H gd hr
  have rm := hr
  exact (qs_cons (q_set (i := 2) S.nd rfl (by first | exact Or.inl rfl | exact Or.inr rfl) (q_listL rfl T.b_list (q_var (pv 1))))
      (qs_one (q_ret (q_frz (q_lc (own := [("k", 3)]) (g := (gNm 3)) (c := cYes) (f := (ePop (eVar 2) (eCall m__law_draw (aCons (eVar 0) (aCons (eCB (c1 lenD) (aCons (eVar 2) aNil)) aNil))))) rfl S.nd (q_irng1 rfl T.b_range (q_callB cd_len rfl T.b_len (by decide +kernel) (qa_cons (q_var (pv 2)) qa_nil))) (blkOk_by (N := N__law_turned_about) (sc := defScope s__law_turned_about) (by decide +kernel)) (fun _ _ _ _ _ => (q_gname (vs := [3]) (i := 3) S.nd rfl (by first | exact Or.inl rfl | exact Or.inr rfl) (by decide))) (fun _ _ _ _ _ => q_tsnil) (fun _ _ _ _ _ => (q_pop (q_var (pv 2)) (q_callH (H__law_draw.up (by decide)) gd rm rfl (qa_cons (q_var (pv 0)) (qa_cons (q_callB cd_len rfl T.b_len (by decide +kernel) (qa_cons (q_var (pv 2)) qa_nil)) qa_nil))))))))))
theorem ok__law_turned_about {a : Addr} {fd : FuncData} (F : Fun K "_law_turned_about" "_law_turned_about" s__law_turned_about a fd) (M : mg "_law_turned_about" = some (.ref a)) (T : Tx K w mg base) (H__law_draw : Has P w K mg base "_law_draw" 1 ["pen", "many"] m__law_draw) : Has P w K mg base "_law_turned_about" 2 ["pen", "some"] m__law_turned_about :=
  ⟨a, fd, fn__law_turned_about F T  H__law_draw, M, F.kp, (F.binds (ps := ["pen", "some"]) fun _ _ _ _ _ _ us hl => match us, hl with | [_, _], _ => rfl)⟩
end
end Lw
set_option Elab.async false
set_option linter.all false
set_option maxRecDepth 100000
namespace Lw
open PySem PySem.Spec PyProof.Rows L2 DL
noncomputable def b__law_pieces : MS :=
  (sSeq (sPar3 2 3 4 (aCons (eCall m__law_turned_about (aCons (eVar 0) (aCons (eLrg (eCB (c1 lenD) (aCons (eVar 1) aNil))) aNil))) (aCons eDctL (aCons (eC (.int 0)) aNil))))
    (sSeq (sFor (iAny (eVar 2)) (gNm 5) (sW [5] (sSeq (sPut (eVar 4) (eVar 3) (eVar 5))
    (sSet 4 (eBin addD (eVar 4) (eBin ixD (eVar 1) (eVar 5)))))))
    (sSeq (sPar 6 4 (aCons (eLstL aNil) (aCons (eC (.int 0)) aNil)))
    (sSeq (sZ [6] (sFor (iRg1 (eCB (c1 lenD) (aCons (eVar 1) aNil))) (gNm 5) (sW [5] (sSeq (sEx (eApp (eVar 6) (eTup (aCons (eVar 4) (aCons (eBin ixD (eVar 1) (eVar 5)) (aCons (eGet (eVar 3) (eVar 5)) (aCons (eCall m__law_pick (aCons (eVar 0) (aCons (eLst (aCons (eC (.int 1)) (aCons (eC (.int 1)) (aCons (eNeg (eC (.int 1))) aNil)))) aNil))) aNil)))))))
    (sSet 4 (eBin addD (eVar 4) (eBin ixD (eVar 1) (eVar 5))))))))
    (sRet (eVar 6))))))
noncomputable def m__law_pieces : MF := fnD 2 7 b__law_pieces
end Lw
set_option Elab.async false
set_option linter.all false
set_option maxRecDepth 100000
set_option maxHeartbeats 8000000
namespace Lw
open PySem PySem.Spec PyProof.Rows L2 DL
section
variable {P : Program} {w : World} {K : Frg} {mg : Str → Option Value} {base : Heap}
/-! ### _law_pieces -/
abbrev s__law_pieces : Stmt := topS 35
abbrev N__law_pieces : List Str := ["pen", "lengths", "order", "starts", "at", "k", "found"]
theorem sc__law_pieces : FnScope N__law_pieces ["pen", "lengths"] (defScope s__law_pieces) := ⟨rfl, rfl, rfl, by decide +kernel, rfl, by decide +kernel, by decide +kernel⟩
theorem fn__law_pieces {a : Addr} {fd : FuncData} (F : Fun K "_law_pieces" "_law_pieces" s__law_pieces a fd) (T : Tx K w mg base) (H__law_turned_about : Has P w K mg base "_law_turned_about" 2 ["pen", "some"] m__law_turned_about) (H__law_pick : Has P w K mg base "_law_pick" 2 ["pen", "some"] m__law_pick) : FnG P w K mg base 3 a fd ["pen", "lengths"] m__law_pieces := by
  have S := sc__law_pieces
  unfold m__law_pieces
  refine fnd2 (k := 2) (b := b__law_pieces) F S rfl rfl (by decide) ?_
  intro cdv A outer s H gd hr
  have rm := hr
  exact (qs_cons (q_par3 (i := 2) (j := 3) (l := 4) rfl S.nd rfl rfl rfl (by decide) (by decide) (by decide) rfl rfl rfl (qa_cons (q_callH (H__law_turned_about.up (by decide)) gd rm rfl (qa_cons (q_var (pv 0)) (qa_cons (q_lrng rfl rfl T.b_list rfl T.b_range (q_callB cd_len rfl T.b_len (by decide +kernel) (qa_cons (q_var (pv 1)) qa_nil))) qa_nil))) (qa_cons q_dctL (qa_cons q_int qa_nil))))
      (qs_cons (q_for PassesOwn.never rfl (q_iany (q_var (pv 2))) (q_gname (vs := [5]) (i := 5) S.nd rfl (by first | exact Or.inl rfl | exact Or.inr rfl) (by decide)) (qs_w (vs := [5]) (qs_cons (q_put (room1 hr) (q_var (pv 3)) (q_var (pv 5)) (q_var (pv 4)))
      (qs_one (q_set (i := 4) S.nd rfl (by first | exact Or.inl rfl | exact Or.inr rfl) (q_bin od_add (q_var (pv 4)) (q_ix (q_var (pv 1)) (q_var (pv 5)))))))))
      (qs_cons (q_par (i := 6) (j := 4) rfl S.nd rfl rfl (by decide) rfl rfl (qa_cons (q_lstL qa_nil) (qa_cons q_int qa_nil)))
      (qs_cons (q_z (vs := [6]) (q_for PassesOwn.never rfl (q_irng1 rfl T.b_range (q_callB cd_len rfl T.b_len (by decide +kernel) (qa_cons (q_var (pv 1)) qa_nil))) (q_gname (vs := [5]) (i := 5) S.nd rfl (by first | exact Or.inl rfl | exact Or.inr rfl) (by decide)) (qs_w (vs := [5]) (qs_cons (q_expr (q_app (q_var (pv 6)) (q_tup (qa_cons (q_var (pv 4)) (qa_cons (q_ix (q_var (pv 1)) (q_var (pv 5))) (qa_cons (q_get (room1 hr) (q_var (pv 3)) (q_var (pv 5))) (qa_cons (q_callH (H__law_pick.up (by decide)) gd rm rfl (qa_cons (q_var (pv 0)) (qa_cons (q_lst (qa_cons q_int (qa_cons q_int (qa_cons (q_neg q_int) qa_nil)))) qa_nil))) qa_nil)))))))
      (qs_one (q_set (i := 4) S.nd rfl (by first | exact Or.inl rfl | exact Or.inr rfl) (q_bin od_add (q_var (pv 4)) (q_ix (q_var (pv 1)) (q_var (pv 5))))))))))
      (qs_one (q_ret (q_var (pv 6))))))))
theorem ok__law_pieces {a : Addr} {fd : FuncData} (F : Fun K "_law_pieces" "_law_pieces" s__law_pieces a fd) (M : mg "_law_pieces" = some (.ref a)) (T : Tx K w mg base) (H__law_turned_about : Has P w K mg base "_law_turned_about" 2 ["pen", "some"] m__law_turned_about) (H__law_pick : Has P w K mg base "_law_pick" 2 ["pen", "some"] m__law_pick) : Has P w K mg base "_law_pieces" 3 ["pen", "lengths"] m__law_pieces :=
  ⟨a, fd, fn__law_pieces F T  H__law_turned_about H__law_pick, M, F.kp, (F.binds (ps := ["pen", "lengths"]) fun _ _ _ _ _ _ us hl => match us, hl with | [_, _], _ => rfl)⟩
end
end Lw
set_option Elab.async false
set_option linter.all false
set_option maxRecDepth 100000
namespace Lw
open PySem PySem.Spec PyProof.Rows L2 DL
noncomputable def b__law_small : MS :=
  (sSeq (sPar3 2 3 4 (aCons (eLstL (aCons (eCB (c2 min2D) (aCons (eVar 1) (aCons (eBin addD (eC (.int 1)) (eCall m__law_draw (aCons (eVar 0) (aCons (eBin addD (eC (.int 1)) (eCall m__law_draw (aCons (eVar 0) (aCons (eC (.int 9)) aNil)))) aNil)))) aNil))) aNil)) (aCons (eCall m__law_draw (aCons (eVar 0) (aCons (eC (.int 6)) aNil))) (aCons (eC (.int 5)) aNil))))
    (sSeq (sIf (bOf (eBinF eqD (eCall m__law_draw (aCons (eVar 0) (aCons (eC (.int 5)) aNil))) (eC (.int 0)))) (sPar3 2 3 4 (aCons (eLstL (aCons (eC (.int 1)) aNil)) (aCons (eC (.int 13)) (aCons (eBin addD (eC (.int 1)) (eCall m__law_draw (aCons (eVar 0) (aCons (eC (.int 2)) aNil)))) aNil)))) sNil)
    (sSeq (sZ [2] (sFor (iRg1 (eVar 3)) (gNm 5) (sW [5, 6] (sSeq (sSet 6 (eBin addD (eC (.int 1)) (eCall m__law_draw (aCons (eVar 0) (aCons (eVar 4) aNil)))))
    (sIf (bOf (eBin leD (eBin addD (eCB (c1 sumD) (aCons (eVar 2) aNil)) (eVar 6)) (eVar 1))) (sEx (eApp (eVar 2) (eVar 6))) sNil)))))
    (sRet (eCall m__law_pieces (aCons (eVar 0) (aCons (eVar 2) aNil)))))))
noncomputable def m__law_small : MF := fnD 2 7 b__law_small
end Lw
set_option Elab.async false
set_option linter.all false
set_option maxRecDepth 100000
set_option maxHeartbeats 8000000
namespace Lw
open PySem PySem.Spec PyProof.Rows L2 DL
section
variable {P : Program} {w : World} {K : Frg} {mg : Str → Option Value} {base : Heap}
/-! ### _law_small -/
abbrev s__law_small : Stmt := topS 36
abbrev N__law_small : List Str := ["pen", "most", "lengths", "many", "wide", "k", "more"]
theorem sc__law_small : FnScope N__law_small ["pen", "most"] (defScope s__law_small) := ⟨rfl, rfl, rfl, by decide +kernel, rfl, by decide +kernel, by decide +kernel⟩
theorem fn__law_small {a : Addr} {fd : FuncData} (F : Fun K "_law_small" "_law_small" s__law_small a fd) (T : Tx K w mg base) (H__law_draw : Has P w K mg base "_law_draw" 1 ["pen", "many"] m__law_draw) (H__law_pieces : Has P w K mg base "_law_pieces" 3 ["pen", "lengths"] m__law_pieces) : FnG P w K mg base 4 a fd ["pen", "most"] m__law_small := by
  have S := sc__law_small
  unfold m__law_small
  refine fnd2 (k := 3) (b := b__law_small) F S rfl rfl (by decide) ?_
  intro cdv A outer s H gd hr
  have rm := hr
  exact (qs_cons (q_par3 (i := 2) (j := 3) (l := 4) rfl S.nd rfl rfl rfl (by decide) (by decide) (by decide) rfl rfl rfl (qa_cons (q_lstL (qa_cons (q_callB (cd_min2 rfl) rfl T.b_min (by decide +kernel) (qa_cons (q_var (pv 1)) (qa_cons (q_bin od_add q_int (q_callH (H__law_draw.up (by decide)) gd rm rfl (qa_cons (q_var (pv 0)) (qa_cons (q_bin od_add q_int (q_callH (H__law_draw.up (by decide)) gd rm rfl (qa_cons (q_var (pv 0)) (qa_cons q_int qa_nil)))) qa_nil)))) qa_nil))) qa_nil)) (qa_cons (q_callH (H__law_draw.up (by decide)) gd rm rfl (qa_cons (q_var (pv 0)) (qa_cons q_int qa_nil))) (qa_cons q_int qa_nil))))
      (qs_cons (q_if (q_tcmpF (od_eq (room64 hr)) (q_callH (H__law_draw.up (by decide)) gd rm rfl (qa_cons (q_var (pv 0)) (qa_cons q_int qa_nil))) q_int) (qs_one (q_par3 (i := 2) (j := 3) (l := 4) rfl S.nd rfl rfl rfl (by decide) (by decide) (by decide) rfl rfl rfl (qa_cons (q_lstL (qa_cons q_int qa_nil)) (qa_cons q_int (qa_cons (q_bin od_add q_int (q_callH (H__law_draw.up (by decide)) gd rm rfl (qa_cons (q_var (pv 0)) (qa_cons q_int qa_nil)))) qa_nil))))) qs_nil)
      (qs_cons (q_z (vs := [2]) (q_for PassesOwn.never rfl (q_irng1 rfl T.b_range (q_var (pv 3))) (q_gname (vs := [5]) (i := 5) S.nd rfl (by first | exact Or.inl rfl | exact Or.inr rfl) (by decide)) (qs_w (vs := [5, 6]) (qs_cons (q_set (i := 6) S.nd rfl (by first | exact Or.inl rfl | exact Or.inr rfl) (q_bin od_add q_int (q_callH (H__law_draw.up (by decide)) gd rm rfl (qa_cons (q_var (pv 0)) (qa_cons (q_var (pv 4)) qa_nil)))))
      (qs_one (q_if (q_tcmp od_le (q_bin od_add (q_callB (cd_sum rfl) rfl T.b_sum (by decide +kernel) (qa_cons (q_var (pv 2)) qa_nil)) (q_var (pv 6))) (q_var (pv 1))) (qs_one (q_expr (q_app (q_var (pv 2)) (q_var (pv 6))))) qs_nil))))))
      (qs_one (q_ret (q_callH (H__law_pieces.up (by decide)) gd rm rfl (qa_cons (q_var (pv 0)) (qa_cons (q_var (pv 2)) qa_nil))))))))
theorem ok__law_small {a : Addr} {fd : FuncData} (F : Fun K "_law_small" "_law_small" s__law_small a fd) (M : mg "_law_small" = some (.ref a)) (T : Tx K w mg base) (H__law_draw : Has P w K mg base "_law_draw" 1 ["pen", "many"] m__law_draw) (H__law_pieces : Has P w K mg base "_law_pieces" 3 ["pen", "lengths"] m__law_pieces) : Has P w K mg base "_law_small" 4 ["pen", "most"] m__law_small :=
  ⟨a, fd, fn__law_small F T  H__law_draw H__law_pieces, M, F.kp, (F.binds (ps := ["pen", "most"]) fun _ _ _ _ _ _ us hl => match us, hl with | [_, _], _ => rfl)⟩
end
end Lw
set_option Elab.async false
set_option linter.all false
set_option maxRecDepth 100000
namespace Lw
open PySem PySem.Spec PyProof.Rows L2 DL
noncomputable def b__law_great : MS :=
  (sSeq (sSet 2 (eC (.int 0)))
    (sSeq (sFor (iRg1 (eVar 1)) (gNm 3) (sW [3] (sSet 2 (eBin addD (eBin mulD' (eC (.int 10)) (eVar 2)) (eCall m__law_draw (aCons (eVar 0) (aCons (eC (.int 10)) aNil)))))))
    (sRet (eVar 2))))
noncomputable def m__law_great : MF := fnD 2 4 b__law_great
end Lw
set_option Elab.async false
set_option linter.all false
set_option maxRecDepth 100000
set_option maxHeartbeats 8000000
namespace Lw
open PySem PySem.Spec PyProof.Rows L2 DL
section
variable {P : Program} {w : World} {K : Frg} {mg : Str → Option Value} {base : Heap}
/-! ### _law_great -/
abbrev s__law_great : Stmt := topS 33
abbrev N__law_great : List Str := ["pen", "figures", "found", "k"]
theorem sc__law_great : FnScope N__law_great ["pen", "figures"] (defScope s__law_great) := ⟨rfl, rfl, rfl, by decide +kernel, rfl, by decide +kernel, by decide +kernel⟩
theorem fn__law_great {a : Addr} {fd : FuncData} (F : Fun K "_law_great" "_law_great" s__law_great a fd) (T : Tx K w mg base) (H__law_draw : Has P w K mg base "_law_draw" 1 ["pen", "many"] m__law_draw) : FnG P w K mg base 2 a fd ["pen", "figures"] m__law_great := by
  have S := sc__law_great
  unfold m__law_great
  refine fnd2 (k := 1) (b := b__law_great) F S rfl rfl (by decide) ?_
  intro cdv A outer s H gd hr
  have rm := hr
  exact (qs_cons (q_set (i := 2) S.nd rfl (by first | exact Or.inl rfl | exact Or.inr rfl) q_int)
      (qs_cons (q_for PassesOwn.never rfl (q_irng1 rfl T.b_range (q_var (pv 1))) (q_gname (vs := [3]) (i := 3) S.nd rfl (by first | exact Or.inl rfl | exact Or.inr rfl) (by decide)) (qs_w (vs := [3]) (qs_one (q_set (i := 2) S.nd rfl (by first | exact Or.inl rfl | exact Or.inr rfl) (q_bin od_add (q_bin od_mul' q_int (q_var (pv 2))) (q_callH (H__law_draw.up (by decide)) gd rm rfl (qa_cons (q_var (pv 0)) (qa_cons q_int qa_nil))))))))
      (qs_one (q_ret (q_var (pv 2))))))
theorem ok__law_great {a : Addr} {fd : FuncData} (F : Fun K "_law_great" "_law_great" s__law_great a fd) (M : mg "_law_great" = some (.ref a)) (T : Tx K w mg base) (H__law_draw : Has P w K mg base "_law_draw" 1 ["pen", "many"] m__law_draw) : Has P w K mg base "_law_great" 2 ["pen", "figures"] m__law_great :=
  ⟨a, fd, fn__law_great F T  H__law_draw, M, F.kp, (F.binds (ps := ["pen", "figures"]) fun _ _ _ _ _ _ us hl => match us, hl with | [_, _], _ => rfl)⟩
end
end Lw
set_option Elab.async false
set_option linter.all false
set_option maxRecDepth 100000
namespace Lw
open PySem PySem.Spec PyProof.Rows L2 DL
noncomputable def b__law_long : MS :=
  (sSeq (sAsg (eTupT (aCons (eLstL aNil) (aCons (eCall m__law_draw (aCons (eVar 0) (aCons (eC (.int 4)) aNil))) aNil))) (gTpE [1, 2]))
    (sSeq (sZ [1] (sFor (iRg1 (eBin addD (eC (.int 2)) (eCall m__law_draw (aCons (eVar 0) (aCons (eC (.int 4)) aNil))))) (gNm 3) (sW [3, 4] (sSeq (sSet 4 (eBin ixD (eLst (aCons (eC (.int 17)) (aCons (eC (.int 17)) (aCons (eC (.int 16)) (aCons (eC (.int 12)) (aCons (eC (.int 5)) (aCons (eC (.int 1)) aNil))))))) (eCall m__law_draw (aCons (eVar 0) (aCons (eC (.int 6)) aNil)))))
    (sEx (eApp (eVar 1) (eBin addD (eC (.int 1)) (eCall m__law_great (aCons (eVar 0) (aCons (eVar 4) aNil))))))))))
    (sSeq (sIf (bOf (eBinF eqD (eVar 2) (eC (.int 0)))) (sSet 1 (eFrz (eLc (iAny (eVar 1)) (gNm 3) cYes (eBin addD (eBin ixD (eVar 1) (eC (.int 0))) (eCall m__law_draw (aCons (eVar 0) (aCons (eC (.int 5)) aNil)))) [3]))) sNil)
    (sSeq (sIf (bOf (eBinF eqD (eVar 2) (eC (.int 2)))) (sSet 1 (eFrz (eLc (iRg1 (eBin addD (eC (.int 6)) (eCall m__law_draw (aCons (eVar 0) (aCons (eC (.int 8)) aNil))))) (gNm 3) cYes (eBin addD (eC (.int 1)) (eCall m__law_great (aCons (eVar 0) (aCons (eBin addD (eC (.int 1)) (eCall m__law_draw (aCons (eVar 0) (aCons (eC (.int 5)) aNil)))) aNil)))) [3]))) sNil)
    (sSeq (sW [3, 5, 6] (sIf (bOf (eBinF eqD (eVar 2) (eC (.int 1)))) (sSeq (sPar 5 6 (aCons (eBin addD (eC (.int 1)) (eCall m__law_draw (aCons (eVar 0) (aCons (eC (.int 9)) aNil)))) (aCons (eBin addD (eC (.int 1)) (eCall m__law_draw (aCons (eVar 0) (aCons (eC (.int 9)) aNil)))) aNil)))
    (sSeq (sFor (iRg1 (eBin addD (eC (.int 40)) (eCall m__law_draw (aCons (eVar 0) (aCons (eC (.int 40)) aNil))))) (gNm 3) (sW [3] (sPar 5 6 (aCons (eVar 6) (aCons (eBin addD (eVar 5) (eVar 6)) aNil)))))
    (sSet 1 (eSl (eBin addD (eLst (aCons (eVar 5) (aCons (eVar 6) aNil))) (eVar 1)) oNo (oYes (eCB (c1 lenD) (aCons (eVar 1) aNil))))))) sNil))
    (sRet (eCall m__law_pieces (aCons (eVar 0) (aCons (eVar 1) aNil)))))))))
noncomputable def m__law_long : MF := fnD 1 7 b__law_long
end Lw
set_option Elab.async false
set_option linter.all false
set_option maxRecDepth 100000
set_option maxHeartbeats 8000000
namespace Lw
open PySem PySem.Spec PyProof.Rows L2 DL
section
variable {P : Program} {w : World} {K : Frg} {mg : Str → Option Value} {base : Heap}
/-! ### _law_long -/
abbrev s__law_long : Stmt := topS 37
abbrev N__law_long : List Str := ["pen", "lengths", "kind", "k", "figures", "one", "two"]
theorem sc__law_long : FnScope N__law_long ["pen"] (defScope s__law_long) := ⟨rfl, rfl, rfl, by decide +kernel, rfl, by decide +kernel, by decide +kernel⟩
theorem fn__law_long {a : Addr} {fd : FuncData} (F : Fun K "_law_long" "_law_long" s__law_long a fd) (T : Tx K w mg base) (H__law_draw : Has P w K mg base "_law_draw" 1 ["pen", "many"] m__law_draw) (H__law_great : Has P w K mg base "_law_great" 2 ["pen", "figures"] m__law_great) (H__law_pieces : Has P w K mg base "_law_pieces" 3 ["pen", "lengths"] m__law_pieces) : FnG P w K mg base 4 a fd ["pen"] m__law_long := by
  have S := sc__law_long
  unfold m__law_long
  refine fnd2 (k := 3) (b := b__law_long) F S rfl rfl (by decide) ?_
  intro cdv A outer s H gd hr
  have rm := hr
  exact (qs_cons (q_asg (q_tupT (qa_cons (q_lstL qa_nil) (qa_cons (q_callH (H__law_draw.up (by decide)) gd rm rfl (qa_cons (q_var (pv 0)) (qa_cons q_int qa_nil))) qa_nil))) (q_gtupE (vs := [1, 2]) rfl (q_gconsE (vs := [1, 2]) (i := 1) S.nd rfl (by first | exact Or.inl rfl | exact Or.inr rfl) (q_gconsE (vs := [1, 2]) (i := 2) S.nd rfl (by first | exact Or.inl rfl | exact Or.inr rfl) q_gnilE (by decide)) (by decide))))
      (qs_cons (q_z (vs := [1]) (q_for PassesOwn.never rfl (q_irng1 rfl T.b_range (q_bin od_add q_int (q_callH (H__law_draw.up (by decide)) gd rm rfl (qa_cons (q_var (pv 0)) (qa_cons q_int qa_nil))))) (q_gname (vs := [3]) (i := 3) S.nd rfl (by first | exact Or.inl rfl | exact Or.inr rfl) (by decide)) (qs_w (vs := [3, 4]) (qs_cons (q_set (i := 4) S.nd rfl (by first | exact Or.inl rfl | exact Or.inr rfl) (q_ix (q_lst (qa_cons q_int (qa_cons q_int (qa_cons q_int (qa_cons q_int (qa_cons q_int (qa_cons q_int qa_nil))))))) (q_callH (H__law_draw.up (by decide)) gd rm rfl (qa_cons (q_var (pv 0)) (qa_cons q_int qa_nil)))))
      (qs_one (q_expr (q_app (q_var (pv 1)) (q_bin od_add q_int (q_callH (H__law_great.up (by decide)) gd rm rfl (qa_cons (q_var (pv 0)) (qa_cons (q_var (pv 4)) qa_nil)))))))))))
      (qs_cons (q_if (q_tcmpF (od_eq (room64 hr)) (q_var (pv 2)) q_int) (qs_one (q_set (i := 1) S.nd rfl (by first | exact Or.inl rfl | exact Or.inr rfl) (q_frz (q_lc (own := [("k", 3)]) (g := (gNm 3)) (c := cYes) (f := (eBin addD (eBin ixD (eVar 1) (eC (.int 0))) (eCall m__law_draw (aCons (eVar 0) (aCons (eC (.int 5)) aNil))))) rfl S.nd (q_iany (q_var (pv 1))) (blkOk_by (N := N__law_long) (sc := defScope s__law_long) (by decide +kernel)) (fun _ _ _ _ _ => (q_gname (vs := [3]) (i := 3) S.nd rfl (by first | exact Or.inl rfl | exact Or.inr rfl) (by decide))) (fun _ _ _ _ _ => q_tsnil) (fun _ _ _ _ _ => (q_bin od_add (q_ix (q_var (pv 1)) q_int) (q_callH (H__law_draw.up (by decide)) gd rm rfl (qa_cons (q_var (pv 0)) (qa_cons q_int qa_nil))))))))) qs_nil)
      (qs_cons (q_if (q_tcmpF (od_eq (room64 hr)) (q_var (pv 2)) q_int) (qs_one (q_set (i := 1) S.nd rfl (by first | exact Or.inl rfl | exact Or.inr rfl) (q_frz (q_lc (own := [("k", 3)]) (g := (gNm 3)) (c := cYes) (f := (eBin addD (eC (.int 1)) (eCall m__law_great (aCons (eVar 0) (aCons (eBin addD (eC (.int 1)) (eCall m__law_draw (aCons (eVar 0) (aCons (eC (.int 5)) aNil)))) aNil))))) rfl S.nd (q_irng1 rfl T.b_range (q_bin od_add q_int (q_callH (H__law_draw.up (by decide)) gd rm rfl (qa_cons (q_var (pv 0)) (qa_cons q_int qa_nil))))) (blkOk_by (N := N__law_long) (sc := defScope s__law_long) (by decide +kernel)) (fun _ _ _ _ _ => (q_gname (vs := [3]) (i := 3) S.nd rfl (by first | exact Or.inl rfl | exact Or.inr rfl) (by decide))) (fun _ _ _ _ _ => q_tsnil) (fun _ _ _ _ _ => (q_bin od_add q_int (q_callH (H__law_great.up (by decide)) gd rm rfl (qa_cons (q_var (pv 0)) (qa_cons (q_bin od_add q_int (q_callH (H__law_draw.up (by decide)) gd rm rfl (qa_cons (q_var (pv 0)) (qa_cons q_int qa_nil)))) qa_nil))))))))) qs_nil)
      (qs_cons (q_w (vs := [3, 5, 6]) (q_if (q_tcmpF (od_eq (room64 hr)) (q_var (pv 2)) q_int) (qs_cons (q_par (i := 5) (j := 6) rfl S.nd rfl rfl (by decide) rfl rfl (qa_cons (q_bin od_add q_int (q_callH (H__law_draw.up (by decide)) gd rm rfl (qa_cons (q_var (pv 0)) (qa_cons q_int qa_nil)))) (qa_cons (q_bin od_add q_int (q_callH (H__law_draw.up (by decide)) gd rm rfl (qa_cons (q_var (pv 0)) (qa_cons q_int qa_nil)))) qa_nil)))
      (qs_cons (q_for PassesOwn.never rfl (q_irng1 rfl T.b_range (q_bin od_add q_int (q_callH (H__law_draw.up (by decide)) gd rm rfl (qa_cons (q_var (pv 0)) (qa_cons q_int qa_nil))))) (q_gname (vs := [3]) (i := 3) S.nd rfl (by first | exact Or.inl rfl | exact Or.inr rfl) (by decide)) (qs_w (vs := [3]) (qs_one (q_par (i := 5) (j := 6) rfl S.nd rfl rfl (by decide) rfl rfl (qa_cons (q_var (pv 6)) (qa_cons (q_bin od_add (q_var (pv 5)) (q_var (pv 6))) qa_nil))))))
      (qs_one (q_set (i := 1) S.nd rfl (by first | exact Or.inl rfl | exact Or.inr rfl) (q_slice (q_bin od_add (q_lst (qa_cons (q_var (pv 5)) (qa_cons (q_var (pv 6)) qa_nil))) (q_var (pv 1))) q_no (q_yes (q_callB cd_len rfl T.b_len (by decide +kernel) (qa_cons (q_var (pv 1)) qa_nil)))))))) qs_nil))
      (qs_one (q_ret (q_callH (H__law_pieces.up (by decide)) gd rm rfl (qa_cons (q_var (pv 0)) (qa_cons (q_var (pv 1)) qa_nil))))))))))
theorem ok__law_long {a : Addr} {fd : FuncData} (F : Fun K "_law_long" "_law_long" s__law_long a fd) (M : mg "_law_long" = some (.ref a)) (T : Tx K w mg base) (H__law_draw : Has P w K mg base "_law_draw" 1 ["pen", "many"] m__law_draw) (H__law_great : Has P w K mg base "_law_great" 2 ["pen", "figures"] m__law_great) (H__law_pieces : Has P w K mg base "_law_pieces" 3 ["pen", "lengths"] m__law_pieces) : Has P w K mg base "_law_long" 4 ["pen"] m__law_long :=
  ⟨a, fd, fn__law_long F T  H__law_draw H__law_great H__law_pieces, M, F.kp, (F.binds (ps := ["pen"]) fun _ _ _ _ _ _ us hl => match us, hl with | [_], _ => rfl)⟩
end
end Lw
set_option Elab.async false
set_option linter.all false
set_option maxRecDepth 100000
namespace Lw
open PySem PySem.Spec PyProof.Rows L2 DL
noncomputable def b__law_total : MS :=
  (sRet (eCB (c1 sumD) (aCons (eFrz (eLc (iAny (eVar 0)) (gNm 1) cYes (eBin ixD (eVar 1) (eC (.int 1))) [1])) aNil)))
noncomputable def m__law_total : MF := fnD 1 2 b__law_total
end Lw
set_option Elab.async false
set_option linter.all false
set_option maxRecDepth 100000
set_option maxHeartbeats 8000000
namespace Lw
open PySem PySem.Spec PyProof.Rows L2 DL
section
variable {P : Program} {w : World} {K : Frg} {mg : Str → Option Value} {base : Heap}
/-! ### _law_total -/
abbrev s__law_total : Stmt := topS 38
abbrev N__law_total : List Str := ["pieces", "piece"]
theorem sc__law_total : FnScope N__law_total ["pieces"] (defScope s__law_total) := ⟨rfl, rfl, rfl, by decide +kernel, rfl, by decide +kernel, by decide +kernel⟩
theorem fn__law_total {a : Addr} {fd : FuncData} (F : Fun K "_law_total" "_law_total" s__law_total a fd) (T : Tx K w mg base) : FnG P w K mg base 1 a fd ["pieces"] m__law_total := by
  have S := sc__law_total
  unfold m__law_total
  refine fnd2 (k := 0) (b := b__law_total) F S rfl rfl (by decide) ?_
  intro cdv A outer s H gd hr
  have rm := hr
  exact (qs_one (q_ret (q_callB (cd_sum rfl) rfl T.b_sum (by decide +kernel) (qa_cons (q_frz (q_lc (own := [("piece", 1)]) (g := (gNm 1)) (c := cYes) (f := (eBin ixD (eVar 1) (eC (.int 1)))) rfl S.nd (q_iany (q_var (pv 0))) (blkOk_by (N := N__law_total) (sc := defScope s__law_total) (by decide +kernel)) (fun _ _ _ _ _ => (q_gname (vs := [1]) (i := 1) S.nd rfl (by first | exact Or.inl rfl | exact Or.inr rfl) (by decide))) (fun _ _ _ _ _ => q_tsnil) (fun _ _ _ _ _ => (q_ix (q_var (pv 1)) q_int)))) qa_nil))))
theorem ok__law_total {a : Addr} {fd : FuncData} (F : Fun K "_law_total" "_law_total" s__law_total a fd) (M : mg "_law_total" = some (.ref a)) (T : Tx K w mg base) : Has P w K mg base "_law_total" 1 ["pieces"] m__law_total :=
  ⟨a, fd, fn__law_total F T  , M, F.kp, (F.binds (ps := ["pieces"]) fun _ _ _ _ _ _ us hl => match us, hl with | [_], _ => rfl)⟩
end
end Lw
set_option Elab.async false
set_option linter.all false
set_option maxRecDepth 100000
namespace Lw
open PySem PySem.Spec PyProof.Rows L2 DL
noncomputable def b_is_whole : MS :=
  (sRet (eAnd (eIs "int" (eVar 0)) (eNot (eIs "bool" (eVar 0)))))
noncomputable def m_is_whole : MF := fnD 1 1 b_is_whole
end Lw
set_option Elab.async false
set_option linter.all false
set_option maxRecDepth 100000
set_option maxHeartbeats 8000000
namespace Lw
open PySem PySem.Spec PyProof.Rows L2 DL
section
variable {P : Program} {w : World} {K : Frg} {mg : Str → Option Value} {base : Heap}
/-! ### is_whole -/
abbrev s_is_whole : Stmt := topS 2
abbrev N_is_whole : List Str := ["thing"]
theorem sc_is_whole : FnScope N_is_whole ["thing"] (defScope s_is_whole) := ⟨rfl, rfl, rfl, by decide +kernel, rfl, by decide +kernel, by decide +kernel⟩
theorem fn_is_whole {a : Addr} {fd : FuncData} (F : Fun K "is_whole" "is_whole" s_is_whole a fd) (T : Tx K w mg base) : FnG P w K mg base 1 a fd ["thing"] m_is_whole := by
  have S := sc_is_whole
  unfold m_is_whole
  refine fnd2 (k := 0) (b := b_is_whole) F S rfl rfl (by decide) ?_
  intro cdv A outer s H gd hr
  have rm := hr
  exact (qs_one (q_ret (q_and (q_isi rfl T.b_isinstance rfl T.b_int (by decide +kernel) (q_var (pv 0))) (q_one (q_not (q_isi rfl T.b_isinstance rfl T.b_bool (by decide +kernel) (q_var (pv 0))))))))
theorem ok_is_whole {a : Addr} {fd : FuncData} (F : Fun K "is_whole" "is_whole" s_is_whole a fd) (M : mg "is_whole" = some (.ref a)) (T : Tx K w mg base) : Has P w K mg base "is_whole" 1 ["thing"] m_is_whole :=
  ⟨a, fd, fn_is_whole F T  , M, F.kp, (F.binds (ps := ["thing"]) fun _ _ _ _ _ _ us hl => match us, hl with | [_], _ => rfl)⟩
end
end Lw
set_option Elab.async false
set_option linter.all false
set_option maxRecDepth 100000
namespace Lw
open PySem PySem.Spec PyProof.Rows L2 DL
noncomputable def b_is_from_to : MS :=
  (sRet (eAnd (eCall m_is_whole (aCons (eVar 0) aNil)) (eChain leD leD (eVar 1) (eVar 0) (eVar 2))))
noncomputable def m_is_from_to : MF := fnD 3 3 b_is_from_to
end Lw
set_option Elab.async false
set_option linter.all false
set_option maxRecDepth 100000
set_option maxHeartbeats 8000000
namespace Lw
open PySem PySem.Spec PyProof.Rows L2 DL
section
variable {P : Program} {w : World} {K : Frg} {mg : Str → Option Value} {base : Heap}
/-! ### is_from_to -/
abbrev s_is_from_to : Stmt := topS 3
abbrev N_is_from_to : List Str := ["thing", "low", "high"]
theorem sc_is_from_to : FnScope N_is_from_to ["thing", "low", "high"] (defScope s_is_from_to) := ⟨rfl, rfl, rfl, by decide +kernel, rfl, by decide +kernel, by decide +kernel⟩
theorem fn_is_from_to {a : Addr} {fd : FuncData} (F : Fun K "is_from_to" "is_from_to" s_is_from_to a fd) (T : Tx K w mg base) (H_is_whole : Has P w K mg base "is_whole" 1 ["thing"] m_is_whole) : FnG P w K mg base 2 a fd ["thing", "low", "high"] m_is_from_to := by
  have S := sc_is_from_to
  unfold m_is_from_to
  refine fnd2 (k := 1) (b := b_is_from_to) F S rfl rfl (by decide) ?_
  intro cdv A outer s H gd hr
  have rm := hr
  exact (qs_one (q_ret (q_and (q_callH (H_is_whole.up (by decide)) gd rm rfl (qa_cons (q_var (pv 0)) qa_nil)) (q_one (q_chain od_le od_le (q_var (pv 1)) (q_var (pv 0)) (q_var (pv 2)))))))
theorem ok_is_from_to {a : Addr} {fd : FuncData} (F : Fun K "is_from_to" "is_from_to" s_is_from_to a fd) (M : mg "is_from_to" = some (.ref a)) (T : Tx K w mg base) (H_is_whole : Has P w K mg base "is_whole" 1 ["thing"] m_is_whole) : Has P w K mg base "is_from_to" 2 ["thing", "low", "high"] m_is_from_to :=
  ⟨a, fd, fn_is_from_to F T  H_is_whole, M, F.kp, (F.binds (ps := ["thing", "low", "high"]) fun _ _ _ _ _ _ us hl => match us, hl with | [_, _, _], _ => rfl)⟩
end
end Lw
set_option Elab.async false
set_option linter.all false
set_option maxRecDepth 100000
namespace Lw
open PySem PySem.Spec PyProof.Rows L2 DL
noncomputable def b_are_whole : MS :=
  (sRet (eAnd (eIs "tuple" (eVar 0)) (eAnd (eBinF eqD (eCB (c1 lenD) (aCons (eVar 0) aNil)) (eVar 1)) (eCB (c1 allD) (aCons (eFrz (eLc (iAny (eVar 0)) (gNm 2) cYes (eCall m_is_whole (aCons (eVar 2) aNil)) [2])) aNil)))))
noncomputable def m_are_whole : MF := fnD 2 3 b_are_whole
end Lw
set_option Elab.async false
set_option linter.all false
set_option maxRecDepth 100000
set_option maxHeartbeats 8000000
namespace Lw
open PySem PySem.Spec PyProof.Rows L2 DL
section
variable {P : Program} {w : World} {K : Frg} {mg : Str → Option Value} {base : Heap}
/-! ### are_whole -/
abbrev s_are_whole : Stmt := topS 4
abbrev N_are_whole : List Str := ["thing", "many", "part"]
theorem sc_are_whole : FnScope N_are_whole ["thing", "many"] (defScope s_are_whole) := ⟨rfl, rfl, rfl, by decide +kernel, rfl, by decide +kernel, by decide +kernel⟩
theorem fn_are_whole {a : Addr} {fd : FuncData} (F : Fun K "are_whole" "are_whole" s_are_whole a fd) (T : Tx K w mg base) (H_is_whole : Has P w K mg base "is_whole" 1 ["thing"] m_is_whole) : FnG P w K mg base 2 a fd ["thing", "many"] m_are_whole := by
  have S := sc_are_whole
  unfold m_are_whole
  refine fnd2 (k := 1) (b := b_are_whole) F S rfl rfl (by decide) ?_
  intro cdv A outer s H gd hr
  have rm := hr
  exact (qs_one (q_ret (q_and (q_isi rfl T.b_isinstance rfl T.b_tuple (by decide +kernel) (q_var (pv 0))) (q_and (q_cmpF (od_eq (room64 hr)) (q_callB cd_len rfl T.b_len (by decide +kernel) (qa_cons (q_var (pv 0)) qa_nil)) (q_var (pv 1))) (q_one (q_callB (cd_all rfl) rfl T.b_all (by decide +kernel) (qa_cons (q_frz (q_lc (own := [("part", 2)]) (g := (gNm 2)) (c := cYes) (f := (eCall m_is_whole (aCons (eVar 2) aNil))) rfl S.nd (q_iany (q_var (pv 0))) (blkOk_by (N := N_are_whole) (sc := defScope s_are_whole) (by decide +kernel)) (fun _ _ _ _ _ => (q_gname (vs := [2]) (i := 2) S.nd rfl (by first | exact Or.inl rfl | exact Or.inr rfl) (by decide))) (fun _ _ _ _ _ => q_tsnil) (fun _ _ _ _ _ => (q_callH (H_is_whole.up (by decide)) gd rm rfl (qa_cons (q_var (pv 2)) qa_nil))))) qa_nil)))))))
theorem ok_are_whole {a : Addr} {fd : FuncData} (F : Fun K "are_whole" "are_whole" s_are_whole a fd) (M : mg "are_whole" = some (.ref a)) (T : Tx K w mg base) (H_is_whole : Has P w K mg base "is_whole" 1 ["thing"] m_is_whole) : Has P w K mg base "are_whole" 2 ["thing", "many"] m_are_whole :=
  ⟨a, fd, fn_are_whole F T  H_is_whole, M, F.kp, (F.binds (ps := ["thing", "many"]) fun _ _ _ _ _ _ us hl => match us, hl with | [_, _], _ => rfl)⟩
end
end Lw
set_option Elab.async false
set_option linter.all false
set_option maxRecDepth 100000
namespace Lw
open PySem PySem.Spec PyProof.Rows L2 DL
noncomputable def b_is_within : MS :=
  (sRet (eAnd (eBin geD (eVar 1) (eC (.int 1))) (eAnd (eBin geD (eVar 0) (eC (.int 0))) (eBin leD (eBin addD (eVar 0) (eVar 1)) (eVar 2)))))
noncomputable def m_is_within : MF := fnD 3 3 b_is_within
end Lw
set_option Elab.async false
set_option linter.all false
set_option maxRecDepth 100000
set_option maxHeartbeats 8000000
namespace Lw
open PySem PySem.Spec PyProof.Rows L2 DL
section
variable {P : Program} {w : World} {K : Frg} {mg : Str → Option Value} {base : Heap}
/-! ### is_within -/
abbrev s_is_within : Stmt := topS 12
abbrev N_is_within : List Str := ["first", "many", "total"]
theorem sc_is_within : FnScope N_is_within ["first", "many", "total"] (defScope s_is_within) := ⟨rfl, rfl, rfl, by decide +kernel, rfl, by decide +kernel, by decide +kernel⟩
theorem fn_is_within {a : Addr} {fd : FuncData} (F : Fun K "is_within" "is_within" s_is_within a fd) (T : Tx K w mg base) : FnG P w K mg base 1 a fd ["first", "many", "total"] m_is_within := by
  have S := sc_is_within
  unfold m_is_within
  refine fnd2 (k := 0) (b := b_is_within) F S rfl rfl (by decide) ?_
  intro cdv A outer s H gd hr
  have rm := hr
  exact (qs_one (q_ret (q_and (q_cmp od_ge (q_var (pv 1)) q_int) (q_and (q_cmp od_ge (q_var (pv 0)) q_int) (q_one (q_cmp od_le (q_bin od_add (q_var (pv 0)) (q_var (pv 1))) (q_var (pv 2))))))))
theorem ok_is_within {a : Addr} {fd : FuncData} (F : Fun K "is_within" "is_within" s_is_within a fd) (M : mg "is_within" = some (.ref a)) (T : Tx K w mg base) : Has P w K mg base "is_within" 1 ["first", "many", "total"] m_is_within :=
  ⟨a, fd, fn_is_within F T  , M, F.kp, (F.binds (ps := ["first", "many", "total"]) fun _ _ _ _ _ _ us hl => match us, hl with | [_, _, _], _ => rfl)⟩
end
end Lw
set_option Elab.async false
set_option linter.all false
set_option maxRecDepth 100000
namespace Lw
open PySem PySem.Spec PyProof.Rows L2 DL
noncomputable def b__is_piece : MS :=
  (sSeq (sIf (bNot (bTru (eCall m_are_whole (aCons (eVar 0) (aCons (eC (.int 4)) aNil))))) (sRet (eC (.bool false))) sNil)
    (sSeq (sAsg (eVar 0) (gTpE [2, 3, 4, 5]))
    (sRet (eAnd (eBin inD (eVar 5) (eTup (aCons (eC (.int 1)) (aCons (eNeg (eC (.int 1))) aNil)))) (eAnd (eCall m_is_within (aCons (eVar 2) (aCons (eVar 3) (aCons (eVar 1) aNil)))) (eCall m_is_within (aCons (eVar 4) (aCons (eVar 3) (aCons (eVar 1) aNil)))))))))
noncomputable def m__is_piece : MF := fnD 2 6 b__is_piece
end Lw
set_option Elab.async false
set_option linter.all false
set_option maxRecDepth 100000
set_option maxHeartbeats 8000000
namespace Lw
open PySem PySem.Spec PyProof.Rows L2 DL
section
variable {P : Program} {w : World} {K : Frg} {mg : Str → Option Value} {base : Heap}
/-! ### _is_piece -/
abbrev s__is_piece : Stmt := topS 26
abbrev N__is_piece : List Str := ["thing", "total", "first", "many", "to", "way"]
theorem sc__is_piece : FnScope N__is_piece ["thing", "total"] (defScope s__is_piece) := ⟨rfl, rfl, rfl, by decide +kernel, rfl, by decide +kernel, by decide +kernel⟩
theorem fn__is_piece {a : Addr} {fd : FuncData} (F : Fun K "_is_piece" "_is_piece" s__is_piece a fd) (T : Tx K w mg base) (H_are_whole : Has P w K mg base "are_whole" 2 ["thing", "many"] m_are_whole) (H_is_within : Has P w K mg base "is_within" 1 ["first", "many", "total"] m_is_within) : FnG P w K mg base 3 a fd ["thing", "total"] m__is_piece := by
  have S := sc__is_piece
  unfold m__is_piece
  refine fnd2 (k := 2) (b := b__is_piece) F S rfl rfl (by decide) ?_
  intro cdv A outer s H gd hr
  have rm := hr
  exact (qs_cons (q_if (q_tnot (q_tru (q_callH (H_are_whole.up (by decide)) gd rm rfl (qa_cons (q_var (pv 0)) (qa_cons q_int qa_nil))))) (qs_one (q_ret q_bl)) qs_nil)
      (qs_cons (q_asg (q_var (pv 0)) (q_gtupE (vs := [2, 3, 4, 5]) rfl (q_gconsE (vs := [2, 3, 4, 5]) (i := 2) S.nd rfl (by first | exact Or.inl rfl | exact Or.inr rfl) (q_gconsE (vs := [2, 3, 4, 5]) (i := 3) S.nd rfl (by first | exact Or.inl rfl | exact Or.inr rfl) (q_gconsE (vs := [2, 3, 4, 5]) (i := 4) S.nd rfl (by first | exact Or.inl rfl | exact Or.inr rfl) (q_gconsE (vs := [2, 3, 4, 5]) (i := 5) S.nd rfl (by first | exact Or.inl rfl | exact Or.inr rfl) q_gnilE (by decide)) (by decide)) (by decide)) (by decide))))
      (qs_one (q_ret (q_and (q_cmp od_in (q_var (pv 5)) (q_tup (qa_cons q_int (qa_cons (q_neg q_int) qa_nil)))) (q_and (q_callH (H_is_within.up (by decide)) gd rm rfl (qa_cons (q_var (pv 2)) (qa_cons (q_var (pv 3)) (qa_cons (q_var (pv 1)) qa_nil)))) (q_one (q_callH (H_is_within.up (by decide)) gd rm rfl (qa_cons (q_var (pv 4)) (qa_cons (q_var (pv 3)) (qa_cons (q_var (pv 1)) qa_nil)))))))))))
theorem ok__is_piece {a : Addr} {fd : FuncData} (F : Fun K "_is_piece" "_is_piece" s__is_piece a fd) (M : mg "_is_piece" = some (.ref a)) (T : Tx K w mg base) (H_are_whole : Has P w K mg base "are_whole" 2 ["thing", "many"] m_are_whole) (H_is_within : Has P w K mg base "is_within" 1 ["first", "many", "total"] m_is_within) : Has P w K mg base "_is_piece" 3 ["thing", "total"] m__is_piece :=
  ⟨a, fd, fn__is_piece F T  H_are_whole H_is_within, M, F.kp, (F.binds (ps := ["thing", "total"]) fun _ _ _ _ _ _ us hl => match us, hl with | [_, _], _ => rfl)⟩
end
end Lw
set_option Elab.async false
set_option linter.all false
set_option maxRecDepth 100000
namespace Lw
open PySem PySem.Spec PyProof.Rows L2 DL
noncomputable def b__are_pieces : MS :=
  (sRet (eAnd (eIs2 "list" "tuple" (eVar 0)) (eCB (c1 allD) (aCons (eFrz (eLc (iAny (eVar 0)) (gNm 2) cYes (eCall m__is_piece (aCons (eVar 2) (aCons (eVar 1) aNil))) [2])) aNil))))
noncomputable def m__are_pieces : MF := fnD 2 3 b__are_pieces
end Lw
set_option Elab.async false
set_option linter.all false
set_option maxRecDepth 100000
set_option maxHeartbeats 8000000
namespace Lw
open PySem PySem.Spec PyProof.Rows L2 DL
section
variable {P : Program} {w : World} {K : Frg} {mg : Str → Option Value} {base : Heap}
/-! ### _are_pieces -/
abbrev s__are_pieces : Stmt := topS 25
abbrev N__are_pieces : List Str := ["thing", "total", "part"]
theorem sc__are_pieces : FnScope N__are_pieces ["thing", "total"] (defScope s__are_pieces) := ⟨rfl, rfl, rfl, by decide +kernel, rfl, by decide +kernel, by decide +kernel⟩
theorem fn__are_pieces {a : Addr} {fd : FuncData} (F : Fun K "_are_pieces" "_are_pieces" s__are_pieces a fd) (T : Tx K w mg base) (H__is_piece : Has P w K mg base "_is_piece" 3 ["thing", "total"] m__is_piece) : FnG P w K mg base 4 a fd ["thing", "total"] m__are_pieces := by
  have S := sc__are_pieces
  unfold m__are_pieces
  refine fnd2 (k := 3) (b := b__are_pieces) F S rfl rfl (by decide) ?_
  intro cdv A outer s H gd hr
  have rm := hr
  exact (qs_one (q_ret (q_and (q_isi2 rfl T.b_isinstance rfl T.b_list (by decide +kernel) rfl T.b_tuple (by decide +kernel) (q_var (pv 0))) (q_one (q_callB (cd_all rfl) rfl T.b_all (by decide +kernel) (qa_cons (q_frz (q_lc (own := [("part", 2)]) (g := (gNm 2)) (c := cYes) (f := (eCall m__is_piece (aCons (eVar 2) (aCons (eVar 1) aNil)))) rfl S.nd (q_iany (q_var (pv 0))) (blkOk_by (N := N__are_pieces) (sc := defScope s__are_pieces) (by decide +kernel)) (fun _ _ _ _ _ => (q_gname (vs := [2]) (i := 2) S.nd rfl (by first | exact Or.inl rfl | exact Or.inr rfl) (by decide))) (fun _ _ _ _ _ => q_tsnil) (fun _ _ _ _ _ => (q_callH (H__is_piece.up (by decide)) gd rm rfl (qa_cons (q_var (pv 2)) (qa_cons (q_var (pv 1)) qa_nil)))))) qa_nil))))))
theorem ok__are_pieces {a : Addr} {fd : FuncData} (F : Fun K "_are_pieces" "_are_pieces" s__are_pieces a fd) (M : mg "_are_pieces" = some (.ref a)) (T : Tx K w mg base) (H__is_piece : Has P w K mg base "_is_piece" 3 ["thing", "total"] m__is_piece) : Has P w K mg base "_are_pieces" 4 ["thing", "total"] m__are_pieces :=
  ⟨a, fd, fn__are_pieces F T  H__is_piece, M, F.kp, (F.binds (ps := ["thing", "total"]) fun _ _ _ _ _ _ us hl => match us, hl with | [_, _], _ => rfl)⟩
end
end Lw
set_option Elab.async false
set_option linter.all false
set_option maxRecDepth 100000
namespace Lw
open PySem PySem.Spec PyProof.Rows L2 DL
noncomputable def b__fill : MS :=
  (sSeq (sSet 2 (eC (.int 0)))
    (sSeq (sFor (iAny (eCB (c1 sortedD) (aCons (eVar 0) aNil))) (gNm 3) (sW [3] (sSeq (sIf (bOf (eBinF neD (eBin ixD (eVar 3) (eC (.int 0))) (eVar 2))) (sRet (eC (.bool false))) sNil)
    (sSet 2 (eBin addD (eVar 2) (eBin ixD (eVar 3) (eC (.int 1))))))))
    (sRet (eBinF eqD (eVar 2) (eVar 1)))))
noncomputable def m__fill : MF := fnD 2 4 b__fill
end Lw
set_option Elab.async false
set_option linter.all false
set_option maxRecDepth 100000
set_option maxHeartbeats 8000000
namespace Lw
open PySem PySem.Spec PyProof.Rows L2 DL
section
variable {P : Program} {w : World} {K : Frg} {mg : Str → Option Value} {base : Heap}
/-! ### _fill -/
abbrev s__fill : Stmt := topS 27
abbrev N__fill : List Str := ["pieces", "total", "end", "piece"]
theorem sc__fill : FnScope N__fill ["pieces", "total"] (defScope s__fill) := ⟨rfl, rfl, rfl, by decide +kernel, rfl, by decide +kernel, by decide +kernel⟩
theorem fn__fill {a : Addr} {fd : FuncData} (F : Fun K "_fill" "_fill" s__fill a fd) (T : Tx K w mg base) : FnG P w K mg base 1 a fd ["pieces", "total"] m__fill := by
  have S := sc__fill
  unfold m__fill
  refine fnd2 (k := 0) (b := b__fill) F S rfl rfl (by decide) ?_
  intro cdv A outer s H gd hr
  have rm := hr
  exact (qs_cons (q_set (i := 2) S.nd rfl (by first | exact Or.inl rfl | exact Or.inr rfl) q_int)
      (qs_cons (q_for PassesOwn.never rfl (q_iany (q_callB cd_sorted rfl T.b_sorted (by decide +kernel) (qa_cons (q_var (pv 0)) qa_nil))) (q_gname (vs := [3]) (i := 3) S.nd rfl (by first | exact Or.inl rfl | exact Or.inr rfl) (by decide)) (qs_w (vs := [3]) (qs_cons (q_if (q_tcmpF (od_ne (room64 hr)) (q_ix (q_var (pv 3)) q_int) (q_var (pv 2))) (qs_one (q_ret q_bl)) qs_nil)
      (qs_one (q_set (i := 2) S.nd rfl (by first | exact Or.inl rfl | exact Or.inr rfl) (q_bin od_add (q_var (pv 2)) (q_ix (q_var (pv 3)) q_int)))))))
      (qs_one (q_ret (q_cmpF (od_eq (room64 hr)) (q_var (pv 2)) (q_var (pv 1)))))))
theorem ok__fill {a : Addr} {fd : FuncData} (F : Fun K "_fill" "_fill" s__fill a fd) (M : mg "_fill" = some (.ref a)) (T : Tx K w mg base) : Has P w K mg base "_fill" 1 ["pieces", "total"] m__fill :=
  ⟨a, fd, fn__fill F T  , M, F.kp, (F.binds (ps := ["pieces", "total"]) fun _ _ _ _ _ _ us hl => match us, hl with | [_, _], _ => rfl)⟩
end
end Lw
set_option Elab.async false
set_option linter.all false
set_option maxRecDepth 100000
namespace Lw
open PySem PySem.Spec PyProof.Rows L2 DL
noncomputable def b_back_of : MS :=
  (sSeq (sAsg (eSl (eVar 0) oNo (oYes (eC (.int 4)))) (gTpE [1, 2, 3, 4]))
    (sRet (eTup (aCons (eVar 3) (aCons (eVar 2) (aCons (eVar 1) (aCons (eVar 4) aNil)))))))
noncomputable def m_back_of : MF := fnD 1 5 b_back_of
end Lw
set_option Elab.async false
set_option linter.all false
set_option maxRecDepth 100000
set_option maxHeartbeats 8000000
namespace Lw
open PySem PySem.Spec PyProof.Rows L2 DL
section
variable {P : Program} {w : World} {K : Frg} {mg : Str → Option Value} {base : Heap}
/-! ### back_of -/
abbrev s_back_of : Stmt := topS 15
abbrev N_back_of : List Str := ["piece", "first", "many", "to", "way"]
theorem sc_back_of : FnScope N_back_of ["piece"] (defScope s_back_of) := ⟨rfl, rfl, rfl, by decide +kernel, rfl, by decide +kernel, by decide +kernel⟩
theorem fn_back_of {a : Addr} {fd : FuncData} (F : Fun K "back_of" "back_of" s_back_of a fd) (T : Tx K w mg base) : FnG P w K mg base 1 a fd ["piece"] m_back_of := by
  have S := sc_back_of
  unfold m_back_of
  refine fnd2 (k := 0) (b := b_back_of) F S rfl rfl (by decide) ?_
  intro cdv A outer s H gd hr
  have rm := hr
  exact (qs_cons (q_asg (q_slice (q_var (pv 0)) q_no (q_yes q_int)) (q_gtupE (vs := [1, 2, 3, 4]) rfl (q_gconsE (vs := [1, 2, 3, 4]) (i := 1) S.nd rfl (by first | exact Or.inl rfl | exact Or.inr rfl) (q_gconsE (vs := [1, 2, 3, 4]) (i := 2) S.nd rfl (by first | exact Or.inl rfl | exact Or.inr rfl) (q_gconsE (vs := [1, 2, 3, 4]) (i := 3) S.nd rfl (by first | exact Or.inl rfl | exact Or.inr rfl) (q_gconsE (vs := [1, 2, 3, 4]) (i := 4) S.nd rfl (by first | exact Or.inl rfl | exact Or.inr rfl) q_gnilE (by decide)) (by decide)) (by decide)) (by decide))))
      (qs_one (q_ret (q_tup (qa_cons (q_var (pv 3)) (qa_cons (q_var (pv 2)) (qa_cons (q_var (pv 1)) (qa_cons (q_var (pv 4)) qa_nil))))))))
theorem ok_back_of {a : Addr} {fd : FuncData} (F : Fun K "back_of" "back_of" s_back_of a fd) (M : mg "back_of" = some (.ref a)) (T : Tx K w mg base) : Has P w K mg base "back_of" 1 ["piece"] m_back_of :=
  ⟨a, fd, fn_back_of F T  , M, F.kp, (F.binds (ps := ["piece"]) fun _ _ _ _ _ _ us hl => match us, hl with | [_], _ => rfl)⟩
end
end Lw
set_option Elab.async false
set_option linter.all false
set_option maxRecDepth 100000
namespace Lw
open PySem PySem.Spec PyProof.Rows L2 DL
noncomputable def b_goes_on : MS :=
  (sSeq (sIf (bOr (bOf (eBinF neD (eBin ixD (eVar 1) (eC (.int 0))) (eBin addD (eBin ixD (eVar 0) (eC (.int 0))) (eBin ixD (eVar 0) (eC (.int 1)))))) (bOf (eBinF neD (eBin ixD (eVar 1) (eC (.int 3))) (eBin ixD (eVar 0) (eC (.int 3)))))) (sRet (eC (.bool false))) sNil)
    (sSeq (sIf (bOf (eBinF eqD (eBin ixD (eVar 1) (eC (.int 3))) (eC (.int 1)))) (sRet (eBinF eqD (eBin ixD (eVar 1) (eC (.int 2))) (eBin addD (eBin ixD (eVar 0) (eC (.int 2))) (eBin ixD (eVar 0) (eC (.int 1)))))) sNil)
    (sRet (eBinF eqD (eBin addD (eBin ixD (eVar 1) (eC (.int 2))) (eBin ixD (eVar 1) (eC (.int 1)))) (eBin ixD (eVar 0) (eC (.int 2)))))))
noncomputable def m_goes_on : MF := fnD 2 2 b_goes_on
end Lw
set_option Elab.async false
set_option linter.all false
set_option maxRecDepth 100000
set_option maxHeartbeats 8000000
namespace Lw
open PySem PySem.Spec PyProof.Rows L2 DL
section
variable {P : Program} {w : World} {K : Frg} {mg : Str → Option Value} {base : Heap}
/-! ### goes_on -/
abbrev s_goes_on : Stmt := topS 17
abbrev N_goes_on : List Str := ["ahead", "piece"]
theorem sc_goes_on : FnScope N_goes_on ["ahead", "piece"] (defScope s_goes_on) := ⟨rfl, rfl, rfl, by decide +kernel, rfl, by decide +kernel, by decide +kernel⟩
theorem fn_goes_on {a : Addr} {fd : FuncData} (F : Fun K "goes_on" "goes_on" s_goes_on a fd) (T : Tx K w mg base) : FnG P w K mg base 1 a fd ["ahead", "piece"] m_goes_on := by
  have S := sc_goes_on
  unfold m_goes_on
  refine fnd2 (k := 0) (b := b_goes_on) F S rfl rfl (by decide) ?_
  intro cdv A outer s H gd hr
  have rm := hr
  exact (qs_cons (q_if (PW.pt (q_tor (q_tcmpF (od_ne (room64 hr)) (q_ix (q_var (pv 1)) q_int) (q_bin od_add (q_ix (q_var (pv 0)) q_int) (q_ix (q_var (pv 0)) q_int))) (q_tor1 (q_tcmpF (od_ne (room64 hr)) (q_ix (q_var (pv 1)) q_int) (q_ix (q_var (pv 0)) q_int))))) (qs_one (q_ret q_bl)) qs_nil)
      (qs_cons (q_if (q_tcmpF (od_eq (room64 hr)) (q_ix (q_var (pv 1)) q_int) q_int) (qs_one (q_ret (q_cmpF (od_eq (room64 hr)) (q_ix (q_var (pv 1)) q_int) (q_bin od_add (q_ix (q_var (pv 0)) q_int) (q_ix (q_var (pv 0)) q_int))))) qs_nil)
      (qs_one (q_ret (q_cmpF (od_eq (room64 hr)) (q_bin od_add (q_ix (q_var (pv 1)) q_int) (q_ix (q_var (pv 1)) q_int)) (q_ix (q_var (pv 0)) q_int))))))
theorem ok_goes_on {a : Addr} {fd : FuncData} (F : Fun K "goes_on" "goes_on" s_goes_on a fd) (M : mg "goes_on" = some (.ref a)) (T : Tx K w mg base) : Has P w K mg base "goes_on" 1 ["ahead", "piece"] m_goes_on :=
  ⟨a, fd, fn_goes_on F T  , M, F.kp, (F.binds (ps := ["ahead", "piece"]) fun _ _ _ _ _ _ us hl => match us, hl with | [_, _], _ => rfl)⟩
end
end Lw
set_option Elab.async false
set_option linter.all false
set_option maxRecDepth 100000
namespace Lw
open PySem PySem.Spec PyProof.Rows L2 DL
noncomputable def b__one_form : MS :=
  (sSeq (sSet 1 (eLstL aNil))
    (sSeq (sZ [1] (sFor (iAny (eVar 0)) (gNm 2) (sW [2, 3, 4, 5, 6] (sW [3, 4, 5, 6] (sIf (bAnd (bTru (eVar 1)) (bTru (eCall m_goes_on (aCons (eBin ixD (eVar 1) (eNeg (eC (.int 1)))) (aCons (eVar 2) aNil))))) (sSeq (sAsg (eBin ixD (eVar 1) (eNeg (eC (.int 1)))) (gTpE [3, 4, 5, 6]))
    (sSetIx (eTup (aCons (eVar 3) (aCons (eBin addD (eVar 4) (eBin ixD (eVar 2) (eC (.int 1)))) (aCons (eCB (c2 min2D) (aCons (eVar 5) (aCons (eBin ixD (eVar 2) (eC (.int 2))) aNil))) (aCons (eVar 6) aNil))))) (eVar 1) (eNeg (eC (.int 1))))) (sEx (eApp (eVar 1) (eVar 2))))))))
    (sRet (eVar 1))))
noncomputable def m__one_form : MF := fnD 1 7 b__one_form
end Lw
set_option Elab.async false
set_option linter.all false
set_option maxRecDepth 100000
set_option maxHeartbeats 8000000
namespace Lw
open PySem PySem.Spec PyProof.Rows L2 DL
section
variable {P : Program} {w : World} {K : Frg} {mg : Str → Option Value} {base : Heap}
/-! ### _one_form -/
abbrev s__one_form : Stmt := topS 28
abbrev N__one_form : List Str := ["rising", "out", "piece", "first", "many", "to", "way"]
theorem sc__one_form : FnScope N__one_form ["rising"] (defScope s__one_form) := ⟨rfl, rfl, rfl, by decide +kernel, rfl, by decide +kernel, by decide +kernel⟩
theorem fn__one_form {a : Addr} {fd : FuncData} (F : Fun K "_one_form" "_one_form" s__one_form a fd) (T : Tx K w mg base) (H_goes_on : Has P w K mg base "goes_on" 1 ["ahead", "piece"] m_goes_on) : FnG P w K mg base 2 a fd ["rising"] m__one_form := by
  have S := sc__one_form
  unfold m__one_form
  refine fnd2 (k := 1) (b := b__one_form) F S rfl rfl (by decide) ?_
  intro cdv A outer s H gd hr
  have rm := hr
  exact (qs_cons (q_set (i := 1) S.nd rfl (by first | exact Or.inl rfl | exact Or.inr rfl) (q_lstL qa_nil))
      (qs_cons (q_z (vs := [1]) (q_for PassesOwn.never rfl (q_iany (q_var (pv 0))) (q_gname (vs := [2]) (i := 2) S.nd rfl (by first | exact Or.inl rfl | exact Or.inr rfl) (by decide)) (qs_w (vs := [2, 3, 4, 5, 6]) (qs_one (q_w (vs := [3, 4, 5, 6]) (q_if (PW.pt (q_tand (q_tru (q_var (pv 1))) (q_tand1 (q_tru (q_callH (H_goes_on.up (by decide)) gd rm rfl (qa_cons (q_ix (q_var (pv 1)) (q_neg q_int)) (qa_cons (q_var (pv 2)) qa_nil))))))) (qs_cons (q_asg (q_ix (q_var (pv 1)) (q_neg q_int)) (q_gtupE (vs := [3, 4, 5, 6]) rfl (q_gconsE (vs := [3, 4, 5, 6]) (i := 3) S.nd rfl (by first | exact Or.inl rfl | exact Or.inr rfl) (q_gconsE (vs := [3, 4, 5, 6]) (i := 4) S.nd rfl (by first | exact Or.inl rfl | exact Or.inr rfl) (q_gconsE (vs := [3, 4, 5, 6]) (i := 5) S.nd rfl (by first | exact Or.inl rfl | exact Or.inr rfl) (q_gconsE (vs := [3, 4, 5, 6]) (i := 6) S.nd rfl (by first | exact Or.inl rfl | exact Or.inr rfl) q_gnilE (by decide)) (by decide)) (by decide)) (by decide))))
      (qs_one (q_setIx (q_var (pv 1)) (q_neg q_int) (q_tup (qa_cons (q_var (pv 3)) (qa_cons (q_bin od_add (q_var (pv 4)) (q_ix (q_var (pv 2)) q_int)) (qa_cons (q_callB (cd_min2 rfl) rfl T.b_min (by decide +kernel) (qa_cons (q_var (pv 5)) (qa_cons (q_ix (q_var (pv 2)) q_int) qa_nil))) (qa_cons (q_var (pv 6)) qa_nil)))))))) (qs_one (q_expr (q_app (q_var (pv 1)) (q_var (pv 2)))))))))))
      (qs_one (q_ret (q_var (pv 1))))))
theorem ok__one_form {a : Addr} {fd : FuncData} (F : Fun K "_one_form" "_one_form" s__one_form a fd) (M : mg "_one_form" = some (.ref a)) (T : Tx K w mg base) (H_goes_on : Has P w K mg base "goes_on" 1 ["ahead", "piece"] m_goes_on) : Has P w K mg base "_one_form" 2 ["rising"] m__one_form :=
  ⟨a, fd, fn__one_form F T  H_goes_on, M, F.kp, (F.binds (ps := ["rising"]) fun _ _ _ _ _ _ us hl => match us, hl with | [_], _ => rfl)⟩
end
end Lw
set_option Elab.async false
set_option linter.all false
set_option maxRecDepth 100000
namespace Lw
open PySem PySem.Spec PyProof.Rows L2 DL
noncomputable def b_Lay___init__ : MS :=
  (sSeq (sIf (bNot (bTru (eCall m_is_from_to (aCons (eVar 1) (aCons (eC (.int 0)) (aCons (eC (.int 2000000000000000000)) aNil)))))) sNever sNil)
    (sSeq (sIf (bNot (bTru (eCall m__are_pieces (aCons (eVar 2) (aCons (eVar 1) aNil))))) sNever sNil)
    (sSeq (sIf (bOr (bNot (bTru (eCall m__fill (aCons (eVar 2) (aCons (eVar 1) aNil))))) (bNot (bTru (eCall m__fill (aCons (eFrz (eLc (iAny (eVar 2)) (gNm 3) cYes (eCall m_back_of (aCons (eVar 3) aNil)) [3])) (aCons (eVar 1) aNil)))))) sNever sNil)
    (sSeq (sFldP "Lay" "_total" (eVar 1) (eVar 0))
    (sFldP "Lay" "_pieces" (eCall m__one_form (aCons (eCB (c1 sortedD) (aCons (eVar 2) aNil)) aNil)) (eVar 0))))))
noncomputable def m_Lay___init__ : MF := fnD 3 4 b_Lay___init__
end Lw
set_option Elab.async false
set_option linter.all false
set_option maxRecDepth 100000
set_option maxHeartbeats 8000000
namespace Lw
open PySem PySem.Spec PyProof.Rows L2 DL
section
variable {P : Program} {w : World} {K : Frg} {mg : Str → Option Value} {base : Heap}
/-! ### Lay.__init__ -/
abbrev s_Lay___init__ : Stmt := inClass (topS 24) 0
abbrev N_Lay___init__ : List Str := ["self", "total", "pieces", "piece"]
theorem sc_Lay___init__ : FnScope N_Lay___init__ ["self", "total", "pieces"] (defScope s_Lay___init__) := ⟨rfl, rfl, rfl, by decide +kernel, rfl, by decide +kernel, by decide +kernel⟩
theorem fn_Lay___init__ {a : Addr} {fd : FuncData} (F : Fun K "__init__" "Lay.__init__" s_Lay___init__ a fd) (T : Tx K w mg base) {A_Lay : Addr} (C_Lay : Cx_Lay K A_Lay) (H_is_from_to : Has P w K mg base "is_from_to" 2 ["thing", "low", "high"] m_is_from_to) (H__are_pieces : Has P w K mg base "_are_pieces" 4 ["thing", "total"] m__are_pieces) (H__fill : Has P w K mg base "_fill" 1 ["pieces", "total"] m__fill) (H_back_of : Has P w K mg base "back_of" 1 ["piece"] m_back_of) (H__one_form : Has P w K mg base "_one_form" 2 ["rising"] m__one_form) : FnG P w K mg base 5 a fd ["self", "total", "pieces"] m_Lay___init__ := by
  have S := sc_Lay___init__
  unfold m_Lay___init__
  refine fnd2 (k := 4) (b := b_Lay___init__) F S rfl rfl (by decide) ?_
  intro cdv A outer s H gd hr
  have rm := hr
  exact (qs_cons (q_if (q_tnot (q_tru (q_callH (H_is_from_to.up (by decide)) gd rm rfl (qa_cons (q_var (pv 1)) (qa_cons q_int (qa_cons (q_gint rfl T.g_MOST_SPOTS) qa_nil)))))) (qs_one q_never) qs_nil)
      (qs_cons (q_if (q_tnot (q_tru (q_callH (H__are_pieces.up (by decide)) gd rm rfl (qa_cons (q_var (pv 2)) (qa_cons (q_var (pv 1)) qa_nil))))) (qs_one q_never) qs_nil)
      (qs_cons (q_if (PW.pt (q_tor (q_tnot (q_tru (q_callH (H__fill.up (by decide)) gd rm rfl (qa_cons (q_var (pv 2)) (qa_cons (q_var (pv 1)) qa_nil))))) (q_tor1 (q_tnot (q_tru (q_callH (H__fill.up (by decide)) gd rm rfl (qa_cons (q_frz (q_lc (own := [("piece", 3)]) (g := (gNm 3)) (c := cYes) (f := (eCall m_back_of (aCons (eVar 3) aNil))) rfl S.nd (q_iany (q_var (pv 2))) (blkOk_by (N := N_Lay___init__) (sc := defScope s_Lay___init__) (by decide +kernel)) (fun _ _ _ _ _ => (q_gname (vs := [3]) (i := 3) S.nd rfl (by first | exact Or.inl rfl | exact Or.inr rfl) (by decide))) (fun _ _ _ _ _ => q_tsnil) (fun _ _ _ _ _ => (q_callH (H_back_of.up (by decide)) gd rm rfl (qa_cons (q_var (pv 3)) qa_nil))))) (qa_cons (q_var (pv 1)) qa_nil)))))))) (qs_one q_never) qs_nil)
      (qs_cons (q_fldput C_Lay.cls C_Lay.n__total (q_var (pv 0)) (q_var (pv 1)))
      (qs_one (q_fldput C_Lay.cls C_Lay.n__pieces (q_var (pv 0)) (q_callH (H__one_form.up (by decide)) gd rm rfl (qa_cons (q_callB cd_sorted rfl T.b_sorted (by decide +kernel) (qa_cons (q_var (pv 2)) qa_nil)) qa_nil))))))))
theorem ok_Lay___init__ {a Ax : Addr} {fd : FuncData} (F : Fun K "__init__" "Lay.__init__" s_Lay___init__ a fd) (M : Mk K Ax a) (mC : mg "Lay" = some (.ref Ax)) (T : Tx K w mg base) {A_Lay : Addr} (C_Lay : Cx_Lay K A_Lay) (H_is_from_to : Has P w K mg base "is_from_to" 2 ["thing", "low", "high"] m_is_from_to) (H__are_pieces : Has P w K mg base "_are_pieces" 4 ["thing", "total"] m__are_pieces) (H__fill : Has P w K mg base "_fill" 1 ["pieces", "total"] m__fill) (H_back_of : Has P w K mg base "back_of" 1 ["piece"] m_back_of) (H__one_form : Has P w K mg base "_one_form" 2 ["rising"] m__one_form) : HasC P w K mg base "Lay" Ax 5 ["self", "total", "pieces"] m_Lay___init__ :=
  ⟨⟨a, fd, fn_Lay___init__ F T C_Lay H_is_from_to H__are_pieces H__fill H_back_of H__one_form, M, (F.binds (ps := ["self", "total", "pieces"]) fun _ _ _ _ _ _ us hl => match us, hl with | [_, _, _], _ => rfl)⟩, mC⟩
end
end Lw
set_option Elab.async false
set_option linter.all false
set_option maxRecDepth 100000
namespace Lw
open PySem PySem.Spec PyProof.Rows L2 DL
noncomputable def b__law_below : MS :=
  (sSeq (sSet 2 (eCall m__law_draw (aCons (eVar 0) (aCons (eC (.int 8)) aNil))))
    (sSeq (sIf (bOf (eBinF eqD (eVar 2) (eC (.int 0)))) (sRet (eCB (c2 min2D) (aCons (eCall m__law_draw (aCons (eVar 0) (aCons (eC (.int 9)) aNil))) (aCons (eBin subD (eVar 1) (eC (.int 1))) aNil)))) sNil)
    (sSeq (sIf (bOf (eBinF eqD (eVar 2) (eC (.int 1)))) (sRet (eCB (c2 max2D) (aCons (eC (.int 0)) (aCons (eBin subD (eBin subD (eVar 1) (eC (.int 1))) (eCall m__law_draw (aCons (eVar 0) (aCons (eC (.int 9)) aNil)))) aNil)))) sNil)
    (sRet (eBin modD (eCall m__law_great (aCons (eVar 0) (aCons (eCB (c1 lenD) (aCons (eCB (c1 strI) (aCons (eVar 1) aNil)) aNil)) aNil))) (eVar 1))))))
noncomputable def m__law_below : MF := fnD 2 3 b__law_below
end Lw
set_option Elab.async false
set_option linter.all false
set_option maxRecDepth 100000
set_option maxHeartbeats 8000000
namespace Lw
open PySem PySem.Spec PyProof.Rows L2 DL
section
variable {P : Program} {w : World} {K : Frg} {mg : Str → Option Value} {base : Heap}
/-! ### _law_below -/
abbrev s__law_below : Stmt := topS 40
abbrev N__law_below : List Str := ["pen", "bound", "kind"]
theorem sc__law_below : FnScope N__law_below ["pen", "bound"] (defScope s__law_below) := ⟨rfl, rfl, rfl, by decide +kernel, rfl, by decide +kernel, by decide +kernel⟩
theorem fn__law_below {a : Addr} {fd : FuncData} (F : Fun K "_law_below" "_law_below" s__law_below a fd) (T : Tx K w mg base) (H__law_draw : Has P w K mg base "_law_draw" 1 ["pen", "many"] m__law_draw) (H__law_great : Has P w K mg base "_law_great" 2 ["pen", "figures"] m__law_great) : FnG P w K mg base 3 a fd ["pen", "bound"] m__law_below := by
  have S := sc__law_below
  unfold m__law_below
  refine fnd2 (k := 2) (b := b__law_below) F S rfl rfl (by decide) ?_
  intro cdv A outer s H gd hr
  have rm := hr
  exact (qs_cons (q_set (i := 2) S.nd rfl (by first | exact Or.inl rfl | exact Or.inr rfl) (q_callH (H__law_draw.up (by decide)) gd rm rfl (qa_cons (q_var (pv 0)) (qa_cons q_int qa_nil))))
      (qs_cons (q_if (q_tcmpF (od_eq (room64 hr)) (q_var (pv 2)) q_int) (qs_one (q_ret (q_callB (cd_min2 rfl) rfl T.b_min (by decide +kernel) (qa_cons (q_callH (H__law_draw.up (by decide)) gd rm rfl (qa_cons (q_var (pv 0)) (qa_cons q_int qa_nil))) (qa_cons (q_bin od_sub (q_var (pv 1)) q_int) qa_nil))))) qs_nil)
      (qs_cons (q_if (q_tcmpF (od_eq (room64 hr)) (q_var (pv 2)) q_int) (qs_one (q_ret (q_callB (cd_max2 rfl) rfl T.b_max (by decide +kernel) (qa_cons q_int (qa_cons (q_bin od_sub (q_bin od_sub (q_var (pv 1)) q_int) (q_callH (H__law_draw.up (by decide)) gd rm rfl (qa_cons (q_var (pv 0)) (qa_cons q_int qa_nil)))) qa_nil))))) qs_nil)
      (qs_one (q_ret (q_bin od_mod (q_callH (H__law_great.up (by decide)) gd rm rfl (qa_cons (q_var (pv 0)) (qa_cons (q_callB cd_len rfl T.b_len (by decide +kernel) (qa_cons (q_callTy cd_str rfl T.b_str (by decide +kernel) (qa_cons (q_var (pv 1)) qa_nil)) qa_nil)) qa_nil))) (q_var (pv 1))))))))
theorem ok__law_below {a : Addr} {fd : FuncData} (F : Fun K "_law_below" "_law_below" s__law_below a fd) (M : mg "_law_below" = some (.ref a)) (T : Tx K w mg base) (H__law_draw : Has P w K mg base "_law_draw" 1 ["pen", "many"] m__law_draw) (H__law_great : Has P w K mg base "_law_great" 2 ["pen", "figures"] m__law_great) : Has P w K mg base "_law_below" 3 ["pen", "bound"] m__law_below :=
  ⟨a, fd, fn__law_below F T  H__law_draw H__law_great, M, F.kp, (F.binds (ps := ["pen", "bound"]) fun _ _ _ _ _ _ us hl => match us, hl with | [_, _], _ => rfl)⟩
end
end Lw
set_option Elab.async false
set_option linter.all false
set_option maxRecDepth 100000
namespace Lw
open PySem PySem.Spec PyProof.Rows L2 DL
noncomputable def b__law_lot : MS :=
  (sSeq (sIf (bOf (eBinF eqD (eCall m__law_draw (aCons (eVar 0) (aCons (eC (.int 12)) aNil))) (eC (.int 0)))) (sRet (eIf (bAnd (bOf (eBin gtD (eVar 1) (eC (.int 0)))) (bOf (eBinF eqD (eCall m__law_draw (aCons (eVar 0) (aCons (eC (.int 2)) aNil))) (eC (.int 0))))) (eLst (aCons (eTup (aCons (eC (.int 0)) (aCons (eVar 1) aNil))) aNil)) (eLst aNil))) sNil)
    (sSeq (sSet 3 (eCB (c1 sortedD) (aCons (eFrz (eLc (iRg1 (eBin mulD' (eC (.int 2)) (eVar 2))) (gNm 5) cYes (eCall m__law_below (aCons (eVar 0) (aCons (eBin addD (eVar 1) (eC (.int 1))) aNil))) [5])) aNil)))
    (sSeq (sSet 4 (eLstL aNil))
    (sSeq (sZ [4] (sFor (iRg1 (eVar 2)) (gNm 5) (sW [5] (sIf (bOf (eBin ltD (eBin ixD (eVar 3) (eBin mulD' (eC (.int 2)) (eVar 5))) (eBin ixD (eVar 3) (eBin addD (eBin mulD' (eC (.int 2)) (eVar 5)) (eC (.int 1)))))) (sEx (eApp (eVar 4) (eTup (aCons (eBin ixD (eVar 3) (eBin mulD' (eC (.int 2)) (eVar 5))) (aCons (eBin subD (eBin ixD (eVar 3) (eBin addD (eBin mulD' (eC (.int 2)) (eVar 5)) (eC (.int 1)))) (eBin ixD (eVar 3) (eBin mulD' (eC (.int 2)) (eVar 5)))) aNil))))) sNil))))
    (sRet (eVar 4))))))
noncomputable def m__law_lot : MF := fnD 3 6 b__law_lot
end Lw
set_option Elab.async false
set_option linter.all false
set_option maxRecDepth 100000
set_option maxHeartbeats 8000000
namespace Lw
open PySem PySem.Spec PyProof.Rows L2 DL
section
variable {P : Program} {w : World} {K : Frg} {mg : Str → Option Value} {base : Heap}
/-! ### _law_lot -/
abbrev s__law_lot : Stmt := topS 39
abbrev N__law_lot : List Str := ["pen", "total", "most", "ends", "found", "k"]
theorem sc__law_lot : FnScope N__law_lot ["pen", "total", "most"] (defScope s__law_lot) := ⟨rfl, rfl, rfl, by decide +kernel, rfl, by decide +kernel, by decide +kernel⟩
theorem fn__law_lot {a : Addr} {fd : FuncData} (F : Fun K "_law_lot" "_law_lot" s__law_lot a fd) (T : Tx K w mg base) (H__law_draw : Has P w K mg base "_law_draw" 1 ["pen", "many"] m__law_draw) (H__law_below : Has P w K mg base "_law_below" 3 ["pen", "bound"] m__law_below) : FnG P w K mg base 4 a fd ["pen", "total", "most"] m__law_lot := by
  have S := sc__law_lot
  unfold m__law_lot
  refine fnd2 (k := 3) (b := b__law_lot) F S rfl rfl (by decide) ?_
  intro cdv A outer s H gd hr
  have rm := hr
  exact (qs_cons (q_if (q_tcmpF (od_eq (room64 hr)) (q_callH (H__law_draw.up (by decide)) gd rm rfl (qa_cons (q_var (pv 0)) (qa_cons q_int qa_nil))) q_int) (qs_one (q_ret (q_ifExp (PW.pt (q_tand (q_tcmp od_gt (q_var (pv 1)) q_int) (q_tand1 (q_tcmpF (od_eq (room64 hr)) (q_callH (H__law_draw.up (by decide)) gd rm rfl (qa_cons (q_var (pv 0)) (qa_cons q_int qa_nil))) q_int)))) (q_lst (qa_cons (q_tup (qa_cons q_int (qa_cons (q_var (pv 1)) qa_nil))) qa_nil)) (q_lst qa_nil)))) qs_nil)
      (qs_cons (q_set (i := 3) S.nd rfl (by first | exact Or.inl rfl | exact Or.inr rfl) (q_callB cd_sorted rfl T.b_sorted (by decide +kernel) (qa_cons (q_frz (q_lc (own := [("k", 5)]) (g := (gNm 5)) (c := cYes) (f := (eCall m__law_below (aCons (eVar 0) (aCons (eBin addD (eVar 1) (eC (.int 1))) aNil)))) rfl S.nd (q_irng1 rfl T.b_range (q_bin od_mul' q_int (q_var (pv 2)))) (blkOk_by (N := N__law_lot) (sc := defScope s__law_lot) (by decide +kernel)) (fun _ _ _ _ _ => (q_gname (vs := [5]) (i := 5) S.nd rfl (by first | exact Or.inl rfl | exact Or.inr rfl) (by decide))) (fun _ _ _ _ _ => q_tsnil) (fun _ _ _ _ _ => (q_callH (H__law_below.up (by decide)) gd rm rfl (qa_cons (q_var (pv 0)) (qa_cons (q_bin od_add (q_var (pv 1)) q_int) qa_nil)))))) qa_nil)))
      (qs_cons (q_set (i := 4) S.nd rfl (by first | exact Or.inl rfl | exact Or.inr rfl) (q_lstL qa_nil))
      (qs_cons (q_z (vs := [4]) (q_for PassesOwn.never rfl (q_irng1 rfl T.b_range (q_var (pv 2))) (q_gname (vs := [5]) (i := 5) S.nd rfl (by first | exact Or.inl rfl | exact Or.inr rfl) (by decide)) (qs_w (vs := [5]) (qs_one (q_if (q_tcmp od_lt (q_ix (q_var (pv 3)) (q_bin od_mul' q_int (q_var (pv 5)))) (q_ix (q_var (pv 3)) (q_bin od_add (q_bin od_mul' q_int (q_var (pv 5))) q_int))) (qs_one (q_expr (q_app (q_var (pv 4)) (q_tup (qa_cons (q_ix (q_var (pv 3)) (q_bin od_mul' q_int (q_var (pv 5)))) (qa_cons (q_bin od_sub (q_ix (q_var (pv 3)) (q_bin od_add (q_bin od_mul' q_int (q_var (pv 5))) q_int)) (q_ix (q_var (pv 3)) (q_bin od_mul' q_int (q_var (pv 5))))) qa_nil)))))) qs_nil)))))
      (qs_one (q_ret (q_var (pv 4))))))))
theorem ok__law_lot {a : Addr} {fd : FuncData} (F : Fun K "_law_lot" "_law_lot" s__law_lot a fd) (M : mg "_law_lot" = some (.ref a)) (T : Tx K w mg base) (H__law_draw : Has P w K mg base "_law_draw" 1 ["pen", "many"] m__law_draw) (H__law_below : Has P w K mg base "_law_below" 3 ["pen", "bound"] m__law_below) : Has P w K mg base "_law_lot" 4 ["pen", "total", "most"] m__law_lot :=
  ⟨a, fd, fn__law_lot F T  H__law_draw H__law_below, M, F.kp, (F.binds (ps := ["pen", "total", "most"]) fun _ _ _ _ _ _ us hl => match us, hl with | [_, _, _], _ => rfl)⟩
end
end Lw
set_option Elab.async false
set_option linter.all false
set_option maxRecDepth 100000
namespace Lw
open PySem PySem.Spec PyProof.Rows L2 DL
noncomputable def b__law_odd : MS :=
  (sSeq (sSet 1 (eLst (aCons (eC .none) (aCons (eC (.bool true)) (aCons (eC (.bool false)) (aCons (eC (.int 0)) (aCons (eC (.int 1)) (aCons (eNeg (eC (.int 1))) (aCons (eC (.int 2)) (aCons (eBin powD (eC (.int 10)) (eC (.int 30))) (aCons (eC (.str "")) (aCons (eC (.str "piece")) (aCons (eC (.str "then")) (aCons (eC (.str "x")) (aCons (eTup aNil) (aCons (eLst aNil) (aCons eDct0 (aCons (eTup (aCons (eC (.int 0)) aNil)) (aCons (eLst (aCons (eC (.int 0)) (aCons (eC (.int 1)) aNil))) (aCons (eTup (aCons (eC (.int 0)) (aCons (eC (.int 1)) aNil))) (aCons (eC (.str "1")) aNil)))))))))))))))))))))
    (sRet (eCall m__law_pick (aCons (eVar 0) (aCons (eBin addD (eVar 1) (eLst (aCons (eTup (aCons (eC (.str "piece")) aNil)) (aCons (eLst (aCons (eC (.str "piece")) aNil)) (aCons (eTup (aCons (eC (.bool true)) (aCons (eC (.int 1)) aNil))) (aCons (eFrz (eDct [((Str.ofString "piece"), (eC (.int 1)))])) (aCons (eTup (aCons (eTup aNil) (aCons (eTup aNil) aNil))) (aCons (eLst (aCons (eLst aNil) aNil)) aNil)))))))) aNil)))))
noncomputable def m__law_odd : MF := fnD 1 2 b__law_odd
end Lw
set_option Elab.async false
set_option linter.all false
set_option maxRecDepth 100000
set_option maxHeartbeats 8000000
namespace Lw
open PySem PySem.Spec PyProof.Rows L2 DL
section
variable {P : Program} {w : World} {K : Frg} {mg : Str → Option Value} {base : Heap}
/-! ### _law_odd -/
abbrev s__law_odd : Stmt := topS 44
abbrev N__law_odd : List Str := ["pen", "some"]
theorem sc__law_odd : FnScope N__law_odd ["pen"] (defScope s__law_odd) := ⟨rfl, rfl, rfl, by decide +kernel, rfl, by decide +kernel, by decide +kernel⟩
theorem fn__law_odd {a : Addr} {fd : FuncData} (F : Fun K "_law_odd" "_law_odd" s__law_odd a fd) (T : Tx K w mg base) (H__law_pick : Has P w K mg base "_law_pick" 2 ["pen", "some"] m__law_pick) : FnG P w K mg base 3 a fd ["pen"] m__law_odd := by
  have S := sc__law_odd
  unfold m__law_odd
  refine fnd2 (k := 2) (b := b__law_odd) F S rfl rfl (by decide) ?_
  intro cdv A outer s H gd hr
  have rm := hr
  exact (qs_cons (q_set (i := 1) S.nd rfl (by first | exact Or.inl rfl | exact Or.inr rfl) (q_lst (qa_cons q_non (qa_cons q_bl (qa_cons q_bl (qa_cons q_int (qa_cons q_int (qa_cons (q_neg q_int) (qa_cons q_int (qa_cons (q_bin od_pow q_int q_int) (qa_cons q_str (qa_cons q_str (qa_cons q_str (qa_cons q_str (qa_cons (q_tup qa_nil) (qa_cons (q_lst qa_nil) (qa_cons q_dct0 (qa_cons (q_tup (qa_cons q_int qa_nil)) (qa_cons (q_lst (qa_cons q_int (qa_cons q_int qa_nil))) (qa_cons (q_tup (qa_cons q_int (qa_cons q_int qa_nil))) (qa_cons q_str qa_nil)))))))))))))))))))))
      (qs_one (q_ret (q_callH (H__law_pick.up (by decide)) gd rm rfl (qa_cons (q_var (pv 0)) (qa_cons (q_bin od_add (q_var (pv 1)) (q_lst (qa_cons (q_tup (qa_cons q_str qa_nil)) (qa_cons (q_lst (qa_cons q_str qa_nil)) (qa_cons (q_tup (qa_cons q_bl (qa_cons q_int qa_nil))) (qa_cons (q_frz (q_dct (ps := [((Str.ofString "piece"), (eC (.int 1)))]) (pps_cons pe_str q_int pps_nil))) (qa_cons (q_tup (qa_cons (q_tup qa_nil) (qa_cons (q_tup qa_nil) qa_nil))) (qa_cons (q_lst (qa_cons (q_lst qa_nil) qa_nil)) qa_nil)))))))) qa_nil))))))
theorem ok__law_odd {a : Addr} {fd : FuncData} (F : Fun K "_law_odd" "_law_odd" s__law_odd a fd) (M : mg "_law_odd" = some (.ref a)) (T : Tx K w mg base) (H__law_pick : Has P w K mg base "_law_pick" 2 ["pen", "some"] m__law_pick) : Has P w K mg base "_law_odd" 3 ["pen"] m__law_odd :=
  ⟨a, fd, fn__law_odd F T  H__law_pick, M, F.kp, (F.binds (ps := ["pen"]) fun _ _ _ _ _ _ us hl => match us, hl with | [_], _ => rfl)⟩
end
end Lw
set_option Elab.async false
set_option linter.all false
set_option maxRecDepth 100000
namespace Lw
open PySem PySem.Spec PyProof.Rows L2 DL
noncomputable def b__law_bent_tuple : MS :=
  (sSeq (sPar 3 4 (aCons (eCall m__law_draw (aCons (eVar 0) (aCons (eCB (c1 lenD) (aCons (eVar 1) aNil)) aNil))) (aCons (eCall m__law_draw (aCons (eVar 0) (aCons (eC (.int 12)) aNil))) aNil)))
    (sSeq (sSet 5 (eBin ixD (eVar 1) (eVar 3)))
    (sSeq (sIf (bAnd (bOf (eBin ltD (eVar 4) (eC (.int 6)))) (bTru (eIs "int" (eVar 5)))) (sSet 5 (eBin ixD (eLst (aCons (eBin addD (eVar 5) (eC (.int 1))) (aCons (eBin subD (eVar 5) (eC (.int 1))) (aCons (eBin subD (eC (.int 0)) (eVar 5)) (aCons (eBin addD (eVar 5) (eC (.int 1))) (aCons (eBin subD (eVar 5) (eC (.int 1))) (aCons (eBin mulD' (eC (.int 2)) (eVar 5)) aNil))))))) (eVar 4))) (sIf (bOf (eBin ltD (eVar 4) (eC (.int 9)))) (sSet 5 (eBin ixD (eBin addD (eVar 2) (eVar 1)) (eCall m__law_draw (aCons (eVar 0) (aCons (eCB (c1 lenD) (aCons (eBin addD (eVar 2) (eVar 1)) aNil)) aNil))))) (sIf (bOf (eBinF eqD (eVar 4) (eC (.int 9)))) (sRet (eCall m__law_pick (aCons (eVar 0) (aCons (eLst (aCons (eBin addD (eSl (eVar 1) oNo (oYes (eVar 3))) (eSl (eVar 1) (oYes (eBin addD (eVar 3) (eC (.int 1)))) oNo)) (aCons (eBin addD (eVar 1) (eSl (eVar 1) (oYes (eVar 3)) oNo)) (aCons (eCB (c1 listD) (aCons (eVar 1) aNil)) aNil)))) aNil)))) (sSet 5 (eCall m__law_pick (aCons (eVar 0) (aCons (eLst (aCons (eCall m__law_odd (aCons (eVar 0) aNil)) (aCons (eAnd (eIs "int" (eVar 5)) (eBinF eqD (eVar 5) (eC (.int 1)))) (aCons (eCB (c1 strI) (aCons (eVar 5) aNil)) aNil)))) aNil)))))))
    (sRet (eBin addD (eBin addD (eSl (eVar 1) oNo (oYes (eVar 3))) (eTup (aCons (eVar 5) aNil))) (eSl (eVar 1) (oYes (eBin addD (eVar 3) (eC (.int 1)))) oNo))))))
noncomputable def m__law_bent_tuple : MF := fnD 3 6 b__law_bent_tuple
end Lw
set_option Elab.async false
set_option linter.all false
set_option maxRecDepth 100000
set_option maxHeartbeats 8000000
namespace Lw
open PySem PySem.Spec PyProof.Rows L2 DL
section
variable {P : Program} {w : World} {K : Frg} {mg : Str → Option Value} {base : Heap}
/-! ### _law_bent_tuple -/
abbrev s__law_bent_tuple : Stmt := topS 45
abbrev N__law_bent_tuple : List Str := ["pen", "row", "other", "at", "way", "thing"]
theorem sc__law_bent_tuple : FnScope N__law_bent_tuple ["pen", "row", "other"] (defScope s__law_bent_tuple) := ⟨rfl, rfl, rfl, by decide +kernel, rfl, by decide +kernel, by decide +kernel⟩
theorem fn__law_bent_tuple {a : Addr} {fd : FuncData} (F : Fun K "_law_bent_tuple" "_law_bent_tuple" s__law_bent_tuple a fd) (T : Tx K w mg base) (H__law_draw : Has P w K mg base "_law_draw" 1 ["pen", "many"] m__law_draw) (H__law_pick : Has P w K mg base "_law_pick" 2 ["pen", "some"] m__law_pick) (H__law_odd : Has P w K mg base "_law_odd" 3 ["pen"] m__law_odd) : FnG P w K mg base 4 a fd ["pen", "row", "other"] m__law_bent_tuple := by
  have S := sc__law_bent_tuple
  unfold m__law_bent_tuple
  refine fnd2 (k := 3) (b := b__law_bent_tuple) F S rfl rfl (by decide) ?_
  intro cdv A outer s H gd hr
  have rm := hr
  exact (qs_cons (q_par (i := 3) (j := 4) rfl S.nd rfl rfl (by decide) rfl rfl (qa_cons (q_callH (H__law_draw.up (by decide)) gd rm rfl (qa_cons (q_var (pv 0)) (qa_cons (q_callB cd_len rfl T.b_len (by decide +kernel) (qa_cons (q_var (pv 1)) qa_nil)) qa_nil))) (qa_cons (q_callH (H__law_draw.up (by decide)) gd rm rfl (qa_cons (q_var (pv 0)) (qa_cons q_int qa_nil))) qa_nil)))
      (qs_cons (q_set (i := 5) S.nd rfl (by first | exact Or.inl rfl | exact Or.inr rfl) (q_ix (q_var (pv 1)) (q_var (pv 3))))
      (qs_cons (q_if (PW.pt (q_tand (q_tcmp od_lt (q_var (pv 4)) q_int) (q_tand1 (q_tru (q_isi rfl T.b_isinstance rfl T.b_int (by decide +kernel) (q_var (pv 5))))))) (qs_one (q_set (i := 5) S.nd rfl (by first | exact Or.inl rfl | exact Or.inr rfl) (q_ix (q_lst (qa_cons (q_bin od_add (q_var (pv 5)) q_int) (qa_cons (q_bin od_sub (q_var (pv 5)) q_int) (qa_cons (q_bin od_sub q_int (q_var (pv 5))) (qa_cons (q_bin od_add (q_var (pv 5)) q_int) (qa_cons (q_bin od_sub (q_var (pv 5)) q_int) (qa_cons (q_bin od_mul' q_int (q_var (pv 5))) qa_nil))))))) (q_var (pv 4))))) (qs_one (q_if (q_tcmp od_lt (q_var (pv 4)) q_int) (qs_one (q_set (i := 5) S.nd rfl (by first | exact Or.inl rfl | exact Or.inr rfl) (q_ix (q_bin od_add (q_var (pv 2)) (q_var (pv 1))) (q_callH (H__law_draw.up (by decide)) gd rm rfl (qa_cons (q_var (pv 0)) (qa_cons (q_callB cd_len rfl T.b_len (by decide +kernel) (qa_cons (q_bin od_add (q_var (pv 2)) (q_var (pv 1))) qa_nil)) qa_nil)))))) (qs_one (q_if (q_tcmpF (od_eq (room64 hr)) (q_var (pv 4)) q_int) (qs_one (q_ret (q_callH (H__law_pick.up (by decide)) gd rm rfl (qa_cons (q_var (pv 0)) (qa_cons (q_lst (qa_cons (q_bin od_add (q_slice (q_var (pv 1)) q_no (q_yes (q_var (pv 3)))) (q_slice (q_var (pv 1)) (q_yes (q_bin od_add (q_var (pv 3)) q_int)) q_no)) (qa_cons (q_bin od_add (q_var (pv 1)) (q_slice (q_var (pv 1)) (q_yes (q_var (pv 3))) q_no)) (qa_cons (q_callTy cd_list rfl T.b_list (by decide +kernel) (qa_cons (q_var (pv 1)) qa_nil)) qa_nil)))) qa_nil))))) (qs_one (q_set (i := 5) S.nd rfl (by first | exact Or.inl rfl | exact Or.inr rfl) (q_callH (H__law_pick.up (by decide)) gd rm rfl (qa_cons (q_var (pv 0)) (qa_cons (q_lst (qa_cons (q_callH (H__law_odd.up (by decide)) gd rm rfl (qa_cons (q_var (pv 0)) qa_nil)) (qa_cons (q_and (q_isi rfl T.b_isinstance rfl T.b_int (by decide +kernel) (q_var (pv 5))) (q_one (q_cmpF (od_eq (room64 hr)) (q_var (pv 5)) q_int))) (qa_cons (q_callTy cd_str rfl T.b_str (by decide +kernel) (qa_cons (q_var (pv 5)) qa_nil)) qa_nil)))) qa_nil))))))))))
      (qs_one (q_ret (q_bin od_add (q_bin od_add (q_slice (q_var (pv 1)) q_no (q_yes (q_var (pv 3)))) (q_tup (qa_cons (q_var (pv 5)) qa_nil))) (q_slice (q_var (pv 1)) (q_yes (q_bin od_add (q_var (pv 3)) q_int)) q_no)))))))
theorem ok__law_bent_tuple {a : Addr} {fd : FuncData} (F : Fun K "_law_bent_tuple" "_law_bent_tuple" s__law_bent_tuple a fd) (M : mg "_law_bent_tuple" = some (.ref a)) (T : Tx K w mg base) (H__law_draw : Has P w K mg base "_law_draw" 1 ["pen", "many"] m__law_draw) (H__law_pick : Has P w K mg base "_law_pick" 2 ["pen", "some"] m__law_pick) (H__law_odd : Has P w K mg base "_law_odd" 3 ["pen"] m__law_odd) : Has P w K mg base "_law_bent_tuple" 4 ["pen", "row", "other"] m__law_bent_tuple :=
  ⟨a, fd, fn__law_bent_tuple F T  H__law_draw H__law_pick H__law_odd, M, F.kp, (F.binds (ps := ["pen", "row", "other"]) fun _ _ _ _ _ _ us hl => match us, hl with | [_, _, _], _ => rfl)⟩
end
end Lw
set_option Elab.async false
set_option linter.all false
set_option maxRecDepth 100000
namespace Lw
open PySem PySem.Spec PyProof.Rows L2 DL
noncomputable def b__law_bent_lot : MS :=
  (sSeq (sIf (bOf (eBinF eqD (eVar 1) (eLst aNil))) (sRet (eLst (aCons (eTup (aCons (eCall m__law_pick (aCons (eVar 0) (aCons (eLst (aCons (eC (.int 0)) (aCons (eC (.int 1)) (aCons (eNeg (eC (.int 1))) (aCons (eVar 2) aNil))))) aNil))) (aCons (eCall m__law_pick (aCons (eVar 0) (aCons (eLst (aCons (eC (.int 1)) (aCons (eVar 2) (aCons (eBin addD (eVar 2) (eC (.int 1))) (aCons (eC (.int 0)) aNil))))) aNil))) aNil))) aNil))) sNil)
    (sSeq (sPar 3 4 (aCons (eCall m__law_draw (aCons (eVar 0) (aCons (eCB (c1 lenD) (aCons (eVar 1) aNil)) aNil))) (aCons (eCall m__law_draw (aCons (eVar 0) (aCons (eC (.int 8)) aNil))) aNil)))
    (sSeq (sPar 5 6 (aCons (eBin ixD (eVar 1) (eVar 3)) (aCons (eSl (eVar 1) (oYes (eBin addD (eVar 3) (eC (.int 1)))) oNo) aNil)))
    (sSeq (sIf (bOf (eBin ltD (eVar 4) (eC (.int 2)))) (sRet (eBin addD (eBin addD (eSl (eVar 1) oNo (oYes (eVar 3))) (eLst (aCons (eCall m__law_bent_tuple (aCons (eVar 0) (aCons (eVar 5) (aCons (eBin ixD (eVar 1) (eC (.int 0))) aNil)))) aNil))) (eVar 6))) sNil)
    (sSeq (sIf (bOf (eBinF eqD (eVar 4) (eC (.int 2)))) (sRet (eBin addD (eBin addD (eSl (eVar 1) oNo (oYes (eVar 3))) (eLst (aCons (eTup (aCons (eBin ixD (eVar 5) (eC (.int 0))) (aCons (eBin addD (eBin ixD (eVar 5) (eC (.int 1))) (eC (.int 1))) aNil))) aNil))) (eVar 6))) sNil)
    (sSeq (sIf (bOf (eBinF eqD (eVar 4) (eC (.int 3)))) (sRet (eBin addD (eBin addD (eSl (eVar 1) oNo (oYes (eVar 3))) (eLst (aCons (eTup (aCons (eCB (c2 max2D) (aCons (eC (.int 0)) (aCons (eBin subD (eBin ixD (eVar 5) (eC (.int 0))) (eC (.int 1))) aNil))) (aCons (eBin addD (eBin ixD (eVar 5) (eC (.int 1))) (eCB (c1 intD) (aCons (eBin gtD (eBin ixD (eVar 5) (eC (.int 0))) (eC (.int 0))) aNil))) aNil))) aNil))) (eVar 6))) sNil)
    (sSeq (sIf (bOf (eBinF eqD (eVar 4) (eC (.int 4)))) (sRet (eBin addD (eBin addD (eSl (eVar 1) oNo (oYes (eVar 3))) (eLst (aCons (eVar 5) aNil))) (eSl (eVar 1) (oYes (eVar 3)) oNo))) sNil)
    (sSeq (sIf (bOf (eBinF eqD (eVar 4) (eC (.int 5)))) (sRet (eBin addD (eBin addD (eSl (eVar 1) oNo (oYes (eVar 3))) (eVar 6)) (eLst (aCons (eVar 5) aNil)))) sNil)
    (sSeq (sIf (bOf (eBinF eqD (eVar 4) (eC (.int 6)))) (sRet (eBin addD (eBin addD (eSl (eVar 1) oNo (oYes (eVar 3))) (eLst (aCons (eCall m__law_pick (aCons (eVar 0) (aCons (eLst (aCons (eCall m__law_odd (aCons (eVar 0) aNil)) (aCons (eCB (c1 listD) (aCons (eVar 5) aNil)) (aCons (eBin addD (eVar 5) (eTup (aCons (eC (.int 1)) aNil))) (aCons (eSl (eVar 5) oNo (oYes (eC (.int 1)))) aNil))))) aNil))) aNil))) (eVar 6))) sNil)
    (sRet (eBin addD (eVar 1) (eLst (aCons (eTup (aCons (eBin subD (eVar 2) (eC (.int 1))) (aCons (eC (.int 1)) aNil))) aNil)))))))))))))
noncomputable def m__law_bent_lot : MF := fnD 3 7 b__law_bent_lot
end Lw
set_option Elab.async false
set_option linter.all false
set_option maxRecDepth 100000
set_option maxHeartbeats 8000000
namespace Lw
open PySem PySem.Spec PyProof.Rows L2 DL
section
variable {P : Program} {w : World} {K : Frg} {mg : Str → Option Value} {base : Heap}
/-! ### _law_bent_lot -/
abbrev s__law_bent_lot : Stmt := topS 46
abbrev N__law_bent_lot : List Str := ["pen", "lot", "total", "at", "way", "one", "rest"]
theorem sc__law_bent_lot : FnScope N__law_bent_lot ["pen", "lot", "total"] (defScope s__law_bent_lot) := ⟨rfl, rfl, rfl, by decide +kernel, rfl, by decide +kernel, by decide +kernel⟩
theorem fn__law_bent_lot {a : Addr} {fd : FuncData} (F : Fun K "_law_bent_lot" "_law_bent_lot" s__law_bent_lot a fd) (T : Tx K w mg base) (H__law_pick : Has P w K mg base "_law_pick" 2 ["pen", "some"] m__law_pick) (H__law_draw : Has P w K mg base "_law_draw" 1 ["pen", "many"] m__law_draw) (H__law_bent_tuple : Has P w K mg base "_law_bent_tuple" 4 ["pen", "row", "other"] m__law_bent_tuple) (H__law_odd : Has P w K mg base "_law_odd" 3 ["pen"] m__law_odd) : FnG P w K mg base 5 a fd ["pen", "lot", "total"] m__law_bent_lot := by
  have S := sc__law_bent_lot
  unfold m__law_bent_lot
  refine fnd2 (k := 4) (b := b__law_bent_lot) F S rfl rfl (by decide) ?_
  intro cdv A outer s H gd hr
  have rm := hr
  exact (qs_cons (q_if (q_tcmpF (od_eq (room64 hr)) (q_var (pv 1)) (q_lst qa_nil)) (qs_one (q_ret (q_lst (qa_cons (q_tup (qa_cons (q_callH (H__law_pick.up (by decide)) gd rm rfl (qa_cons (q_var (pv 0)) (qa_cons (q_lst (qa_cons q_int (qa_cons q_int (qa_cons (q_neg q_int) (qa_cons (q_var (pv 2)) qa_nil))))) qa_nil))) (qa_cons (q_callH (H__law_pick.up (by decide)) gd rm rfl (qa_cons (q_var (pv 0)) (qa_cons (q_lst (qa_cons q_int (qa_cons (q_var (pv 2)) (qa_cons (q_bin od_add (q_var (pv 2)) q_int) (qa_cons q_int qa_nil))))) qa_nil))) qa_nil))) qa_nil)))) qs_nil)
      (qs_cons (q_par (i := 3) (j := 4) rfl S.nd rfl rfl (by decide) rfl rfl (qa_cons (q_callH (H__law_draw.up (by decide)) gd rm rfl (qa_cons (q_var (pv 0)) (qa_cons (q_callB cd_len rfl T.b_len (by decide +kernel) (qa_cons (q_var (pv 1)) qa_nil)) qa_nil))) (qa_cons (q_callH (H__law_draw.up (by decide)) gd rm rfl (qa_cons (q_var (pv 0)) (qa_cons q_int qa_nil))) qa_nil)))
      (qs_cons (q_par (i := 5) (j := 6) rfl S.nd rfl rfl (by decide) rfl rfl (qa_cons (q_ix (q_var (pv 1)) (q_var (pv 3))) (qa_cons (q_slice (q_var (pv 1)) (q_yes (q_bin od_add (q_var (pv 3)) q_int)) q_no) qa_nil)))
      (qs_cons (q_if (q_tcmp od_lt (q_var (pv 4)) q_int) (qs_one (q_ret (q_bin od_add (q_bin od_add (q_slice (q_var (pv 1)) q_no (q_yes (q_var (pv 3)))) (q_lst (qa_cons (q_callH (H__law_bent_tuple.up (by decide)) gd rm rfl (qa_cons (q_var (pv 0)) (qa_cons (q_var (pv 5)) (qa_cons (q_ix (q_var (pv 1)) q_int) qa_nil)))) qa_nil))) (q_var (pv 6))))) qs_nil)
      (qs_cons (q_if (q_tcmpF (od_eq (room64 hr)) (q_var (pv 4)) q_int) (qs_one (q_ret (q_bin od_add (q_bin od_add (q_slice (q_var (pv 1)) q_no (q_yes (q_var (pv 3)))) (q_lst (qa_cons (q_tup (qa_cons (q_ix (q_var (pv 5)) q_int) (qa_cons (q_bin od_add (q_ix (q_var (pv 5)) q_int) q_int) qa_nil))) qa_nil))) (q_var (pv 6))))) qs_nil)
      (qs_cons (q_if (q_tcmpF (od_eq (room64 hr)) (q_var (pv 4)) q_int) (qs_one (q_ret (q_bin od_add (q_bin od_add (q_slice (q_var (pv 1)) q_no (q_yes (q_var (pv 3)))) (q_lst (qa_cons (q_tup (qa_cons (q_callB (cd_max2 rfl) rfl T.b_max (by decide +kernel) (qa_cons q_int (qa_cons (q_bin od_sub (q_ix (q_var (pv 5)) q_int) q_int) qa_nil))) (qa_cons (q_bin od_add (q_ix (q_var (pv 5)) q_int) (q_callTy cd_int rfl T.b_int (by decide +kernel) (qa_cons (q_cmp od_gt (q_ix (q_var (pv 5)) q_int) q_int) qa_nil))) qa_nil))) qa_nil))) (q_var (pv 6))))) qs_nil)
      (qs_cons (q_if (q_tcmpF (od_eq (room64 hr)) (q_var (pv 4)) q_int) (qs_one (q_ret (q_bin od_add (q_bin od_add (q_slice (q_var (pv 1)) q_no (q_yes (q_var (pv 3)))) (q_lst (qa_cons (q_var (pv 5)) qa_nil))) (q_slice (q_var (pv 1)) (q_yes (q_var (pv 3))) q_no)))) qs_nil)
      (qs_cons (q_if (q_tcmpF (od_eq (room64 hr)) (q_var (pv 4)) q_int) (qs_one (q_ret (q_bin od_add (q_bin od_add (q_slice (q_var (pv 1)) q_no (q_yes (q_var (pv 3)))) (q_var (pv 6))) (q_lst (qa_cons (q_var (pv 5)) qa_nil))))) qs_nil)
      (qs_cons (q_if (q_tcmpF (od_eq (room64 hr)) (q_var (pv 4)) q_int) (qs_one (q_ret (q_bin od_add (q_bin od_add (q_slice (q_var (pv 1)) q_no (q_yes (q_var (pv 3)))) (q_lst (qa_cons (q_callH (H__law_pick.up (by decide)) gd rm rfl (qa_cons (q_var (pv 0)) (qa_cons (q_lst (qa_cons (q_callH (H__law_odd.up (by decide)) gd rm rfl (qa_cons (q_var (pv 0)) qa_nil)) (qa_cons (q_callTy cd_list rfl T.b_list (by decide +kernel) (qa_cons (q_var (pv 5)) qa_nil)) (qa_cons (q_bin od_add (q_var (pv 5)) (q_tup (qa_cons q_int qa_nil))) (qa_cons (q_slice (q_var (pv 5)) q_no (q_yes q_int)) qa_nil))))) qa_nil))) qa_nil))) (q_var (pv 6))))) qs_nil)
      (qs_one (q_ret (q_bin od_add (q_var (pv 1)) (q_lst (qa_cons (q_tup (qa_cons (q_bin od_sub (q_var (pv 2)) q_int) (qa_cons q_int qa_nil))) qa_nil))))))))))))))
theorem ok__law_bent_lot {a : Addr} {fd : FuncData} (F : Fun K "_law_bent_lot" "_law_bent_lot" s__law_bent_lot a fd) (M : mg "_law_bent_lot" = some (.ref a)) (T : Tx K w mg base) (H__law_pick : Has P w K mg base "_law_pick" 2 ["pen", "some"] m__law_pick) (H__law_draw : Has P w K mg base "_law_draw" 1 ["pen", "many"] m__law_draw) (H__law_bent_tuple : Has P w K mg base "_law_bent_tuple" 4 ["pen", "row", "other"] m__law_bent_tuple) (H__law_odd : Has P w K mg base "_law_odd" 3 ["pen"] m__law_odd) : Has P w K mg base "_law_bent_lot" 5 ["pen", "lot", "total"] m__law_bent_lot :=
  ⟨a, fd, fn__law_bent_lot F T  H__law_pick H__law_draw H__law_bent_tuple H__law_odd, M, F.kp, (F.binds (ps := ["pen", "lot", "total"]) fun _ _ _ _ _ _ us hl => match us, hl with | [_, _, _], _ => rfl)⟩
end
end Lw
set_option Elab.async false
set_option linter.all false
set_option maxRecDepth 100000
namespace Lw
open PySem PySem.Spec PyProof.Rows L2 DL
noncomputable def b_Lay_spots : MS :=
  (sRet (eFld "Lay" "_total" (eVar 0)))
noncomputable def m_Lay_spots : MF := fnD 1 1 b_Lay_spots
end Lw
set_option Elab.async false
set_option linter.all false
set_option maxRecDepth 100000
set_option maxHeartbeats 8000000
namespace Lw
open PySem PySem.Spec PyProof.Rows L2 DL
section
variable {P : Program} {w : World} {K : Frg} {mg : Str → Option Value} {base : Heap}
/-! ### Lay.spots -/
abbrev s_Lay_spots : Stmt := inClass (topS 24) 2
abbrev N_Lay_spots : List Str := ["self"]
theorem sc_Lay_spots : FnScope N_Lay_spots ["self"] (defScope s_Lay_spots) := ⟨rfl, rfl, rfl, by decide +kernel, rfl, by decide +kernel, by decide +kernel⟩
theorem fn_Lay_spots {a : Addr} {fd : FuncData} (F : Fun K "spots" "Lay.spots" s_Lay_spots a fd) (T : Tx K w mg base) {A_Lay : Addr} (C_Lay : Cx_Lay K A_Lay) : FnG P w K mg base 1 a fd ["self"] m_Lay_spots := by
  have S := sc_Lay_spots
  unfold m_Lay_spots
  refine fnd2 (k := 0) (b := b_Lay_spots) F S rfl rfl (by decide) ?_
  intro cdv A outer s H gd hr
  have rm := hr
  exact (qs_one (q_ret (q_fld C_Lay.cls C_Lay.n__total (q_var (pv 0)))))
theorem ok_Lay_spots {a Ax : Addr} {fd : FuncData} (F : Fun K "spots" "Lay.spots" s_Lay_spots a fd) (M : Meth K Ax "spots" a) (T : Tx K w mg base) {A_Lay : Addr} (C_Lay : Cx_Lay K A_Lay) : HasM P w K mg base Ax "spots" 1 ["self"] m_Lay_spots :=
  ⟨⟨a, fd, fn_Lay_spots F T C_Lay , M, (F.binds (ps := ["self"]) fun _ _ _ _ _ _ us hl => match us, hl with | [_], _ => rfl)⟩⟩
end
end Lw
set_option Elab.async false
set_option linter.all false
set_option maxRecDepth 100000
namespace Lw
open PySem PySem.Spec PyProof.Rows L2 DL
noncomputable def b_is_lot : MS :=
  (sSeq (sIf (bOr (bNot (bTru (eIs2 "list" "tuple" (eVar 1)))) (bNot (bTru (eCB (c1 allD) (aCons (eFrz (eLc (iAny (eVar 1)) (gNm 5) cYes (eCall m_are_whole (aCons (eVar 5) (aCons (eC (.int 2)) aNil))) [5])) aNil))))) (sRet (eC (.bool false))) sNil)
    (sSeq (sSet 2 (eC (.int 0)))
    (sSeq (sFor (iAny (eVar 1)) (gTpE [3, 4]) (sW [3, 4] (sSeq (sIf (bOr (bOf (eBin ltD (eVar 3) (eVar 2))) (bNot (bTru (eCall m_is_within (aCons (eVar 3) (aCons (eVar 4) (aCons (eMeth "Lay" "spots" m_Lay_spots (eVar 0) aNil) aNil))))))) (sRet (eC (.bool false))) sNil)
    (sSet 2 (eBin addD (eVar 3) (eVar 4))))))
    (sRet (eC (.bool true))))))
noncomputable def m_is_lot : MF := fnD 2 6 b_is_lot
end Lw
set_option Elab.async false
set_option linter.all false
set_option maxRecDepth 100000
set_option maxHeartbeats 8000000
namespace Lw
open PySem PySem.Spec PyProof.Rows L2 DL
section
variable {P : Program} {w : World} {K : Frg} {mg : Str → Option Value} {base : Heap}
/-! ### is_lot -/
abbrev s_is_lot : Stmt := topS 21
abbrev N_is_lot : List Str := ["lay", "thing", "end", "first", "many", "part"]
theorem sc_is_lot : FnScope N_is_lot ["lay", "thing"] (defScope s_is_lot) := ⟨rfl, rfl, rfl, by decide +kernel, rfl, by decide +kernel, by decide +kernel⟩
theorem fn_is_lot {a : Addr} {fd : FuncData} (F : Fun K "is_lot" "is_lot" s_is_lot a fd) (T : Tx K w mg base) {A_Lay : Addr} (C_Lay : Cx_Lay K A_Lay) (H_are_whole : Has P w K mg base "are_whole" 2 ["thing", "many"] m_are_whole) (H_is_within : Has P w K mg base "is_within" 1 ["first", "many", "total"] m_is_within) (H_Lay_spots : HasM P w K mg base A_Lay "spots" 1 ["self"] m_Lay_spots) : FnG P w K mg base 3 a fd ["lay", "thing"] m_is_lot := by
  have S := sc_is_lot
  unfold m_is_lot
  refine fnd2 (k := 2) (b := b_is_lot) F S rfl rfl (by decide) ?_
  intro cdv A outer s H gd hr
  have rm := hr
  exact (qs_cons (q_if (PW.pt (q_tor (q_tnot (q_tru (q_isi2 rfl T.b_isinstance rfl T.b_list (by decide +kernel) rfl T.b_tuple (by decide +kernel) (q_var (pv 1))))) (q_tor1 (q_tnot (q_tru (q_callB (cd_all rfl) rfl T.b_all (by decide +kernel) (qa_cons (q_frz (q_lc (own := [("part", 5)]) (g := (gNm 5)) (c := cYes) (f := (eCall m_are_whole (aCons (eVar 5) (aCons (eC (.int 2)) aNil)))) rfl S.nd (q_iany (q_var (pv 1))) (blkOk_by (N := N_is_lot) (sc := defScope s_is_lot) (by decide +kernel)) (fun _ _ _ _ _ => (q_gname (vs := [5]) (i := 5) S.nd rfl (by first | exact Or.inl rfl | exact Or.inr rfl) (by decide))) (fun _ _ _ _ _ => q_tsnil) (fun _ _ _ _ _ => (q_callH (H_are_whole.up (by decide)) gd rm rfl (qa_cons (q_var (pv 5)) (qa_cons q_int qa_nil)))))) qa_nil))))))) (qs_one (q_ret q_bl)) qs_nil)
      (qs_cons (q_set (i := 2) S.nd rfl (by first | exact Or.inl rfl | exact Or.inr rfl) q_int)
      (qs_cons (q_for PassesOwn.never rfl (q_iany (q_var (pv 1))) (q_gtupE (vs := [3, 4]) rfl (q_gconsE (vs := [3, 4]) (i := 3) S.nd rfl (by first | exact Or.inl rfl | exact Or.inr rfl) (q_gconsE (vs := [3, 4]) (i := 4) S.nd rfl (by first | exact Or.inl rfl | exact Or.inr rfl) q_gnilE (by decide)) (by decide))) (qs_w (vs := [3, 4]) (qs_cons (q_if (PW.pt (q_tor (q_tcmp od_lt (q_var (pv 3)) (q_var (pv 2))) (q_tor1 (q_tnot (q_tru (q_callH (H_is_within.up (by decide)) gd rm rfl (qa_cons (q_var (pv 3)) (qa_cons (q_var (pv 4)) (qa_cons (q_meth0 C_Lay.cls (H_Lay_spots.up (by decide)) gd rm (q_var (pv 0))) qa_nil))))))))) (qs_one (q_ret q_bl)) qs_nil)
      (qs_one (q_set (i := 2) S.nd rfl (by first | exact Or.inl rfl | exact Or.inr rfl) (q_bin od_add (q_var (pv 3)) (q_var (pv 4))))))))
      (qs_one (q_ret q_bl)))))
theorem ok_is_lot {a : Addr} {fd : FuncData} (F : Fun K "is_lot" "is_lot" s_is_lot a fd) (M : mg "is_lot" = some (.ref a)) (T : Tx K w mg base) {A_Lay : Addr} (C_Lay : Cx_Lay K A_Lay) (H_are_whole : Has P w K mg base "are_whole" 2 ["thing", "many"] m_are_whole) (H_is_within : Has P w K mg base "is_within" 1 ["first", "many", "total"] m_is_within) (H_Lay_spots : HasM P w K mg base A_Lay "spots" 1 ["self"] m_Lay_spots) : Has P w K mg base "is_lot" 3 ["lay", "thing"] m_is_lot :=
  ⟨a, fd, fn_is_lot F T C_Lay H_are_whole H_is_within H_Lay_spots, M, F.kp, (F.binds (ps := ["lay", "thing"]) fun _ _ _ _ _ _ us hl => match us, hl with | [_, _], _ => rfl)⟩
end
end Lw
set_option Elab.async false
set_option linter.all false
set_option maxRecDepth 100000
namespace Lw
open PySem PySem.Spec PyProof.Rows L2 DL
noncomputable def b__law_is_num : MS :=
  (sRet (eAnd (eIs "int" (eVar 0)) (eAnd (eNot (eIs "bool" (eVar 0))) (eBin geD (eVar 0) (eVar 1)))))
noncomputable def m__law_is_num : MF := fnD 2 2 b__law_is_num
end Lw
set_option Elab.async false
set_option linter.all false
set_option maxRecDepth 100000
set_option maxHeartbeats 8000000
namespace Lw
open PySem PySem.Spec PyProof.Rows L2 DL
section
variable {P : Program} {w : World} {K : Frg} {mg : Str → Option Value} {base : Heap}
/-! ### _law_is_num -/
abbrev s__law_is_num : Stmt := topS 41
abbrev N__law_is_num : List Str := ["thing", "low"]
theorem sc__law_is_num : FnScope N__law_is_num ["thing", "low"] (defScope s__law_is_num) := ⟨rfl, rfl, rfl, by decide +kernel, rfl, by decide +kernel, by decide +kernel⟩
theorem fn__law_is_num {a : Addr} {fd : FuncData} (F : Fun K "_law_is_num" "_law_is_num" s__law_is_num a fd) (T : Tx K w mg base) : FnG P w K mg base 1 a fd ["thing", "low"] m__law_is_num := by
  have S := sc__law_is_num
  unfold m__law_is_num
  refine fnd2 (k := 0) (b := b__law_is_num) F S rfl rfl (by decide) ?_
  intro cdv A outer s H gd hr
  have rm := hr
  exact (qs_one (q_ret (q_and (q_isi rfl T.b_isinstance rfl T.b_int (by decide +kernel) (q_var (pv 0))) (q_and (q_not (q_isi rfl T.b_isinstance rfl T.b_bool (by decide +kernel) (q_var (pv 0)))) (q_one (q_cmp od_ge (q_var (pv 0)) (q_var (pv 1))))))))
theorem ok__law_is_num {a : Addr} {fd : FuncData} (F : Fun K "_law_is_num" "_law_is_num" s__law_is_num a fd) (M : mg "_law_is_num" = some (.ref a)) (T : Tx K w mg base) : Has P w K mg base "_law_is_num" 1 ["thing", "low"] m__law_is_num :=
  ⟨a, fd, fn__law_is_num F T  , M, F.kp, (F.binds (ps := ["thing", "low"]) fun _ _ _ _ _ _ us hl => match us, hl with | [_, _], _ => rfl)⟩
end
end Lw
set_option Elab.async false
set_option linter.all false
set_option maxRecDepth 100000
namespace Lw
open PySem PySem.Spec PyProof.Rows L2 DL
noncomputable def b__law_is_stretch : MS :=
  (sRet (eAnd (eCall m__law_is_num (aCons (eVar 1) (aCons (eC (.int 0)) aNil))) (eAnd (eCall m__law_is_num (aCons (eVar 2) (aCons (eC (.int 1)) aNil))) (eBin leD (eBin addD (eVar 1) (eVar 2)) (eVar 0)))))
noncomputable def m__law_is_stretch : MF := fnD 3 3 b__law_is_stretch
end Lw
set_option Elab.async false
set_option linter.all false
set_option maxRecDepth 100000
set_option maxHeartbeats 8000000
namespace Lw
open PySem PySem.Spec PyProof.Rows L2 DL
section
variable {P : Program} {w : World} {K : Frg} {mg : Str → Option Value} {base : Heap}
/-! ### _law_is_stretch -/
abbrev s__law_is_stretch : Stmt := topS 42
abbrev N__law_is_stretch : List Str := ["total", "begin", "many"]
theorem sc__law_is_stretch : FnScope N__law_is_stretch ["total", "begin", "many"] (defScope s__law_is_stretch) := ⟨rfl, rfl, rfl, by decide +kernel, rfl, by decide +kernel, by decide +kernel⟩
theorem fn__law_is_stretch {a : Addr} {fd : FuncData} (F : Fun K "_law_is_stretch" "_law_is_stretch" s__law_is_stretch a fd) (T : Tx K w mg base) (H__law_is_num : Has P w K mg base "_law_is_num" 1 ["thing", "low"] m__law_is_num) : FnG P w K mg base 2 a fd ["total", "begin", "many"] m__law_is_stretch := by
  have S := sc__law_is_stretch
  unfold m__law_is_stretch
  refine fnd2 (k := 1) (b := b__law_is_stretch) F S rfl rfl (by decide) ?_
  intro cdv A outer s H gd hr
  have rm := hr
  exact (qs_one (q_ret (q_and (q_callH (H__law_is_num.up (by decide)) gd rm rfl (qa_cons (q_var (pv 1)) (qa_cons q_int qa_nil))) (q_and (q_callH (H__law_is_num.up (by decide)) gd rm rfl (qa_cons (q_var (pv 2)) (qa_cons q_int qa_nil))) (q_one (q_cmp od_le (q_bin od_add (q_var (pv 1)) (q_var (pv 2))) (q_var (pv 0))))))))
theorem ok__law_is_stretch {a : Addr} {fd : FuncData} (F : Fun K "_law_is_stretch" "_law_is_stretch" s__law_is_stretch a fd) (M : mg "_law_is_stretch" = some (.ref a)) (T : Tx K w mg base) (H__law_is_num : Has P w K mg base "_law_is_num" 1 ["thing", "low"] m__law_is_num) : Has P w K mg base "_law_is_stretch" 2 ["total", "begin", "many"] m__law_is_stretch :=
  ⟨a, fd, fn__law_is_stretch F T  H__law_is_num, M, F.kp, (F.binds (ps := ["total", "begin", "many"]) fun _ _ _ _ _ _ us hl => match us, hl with | [_, _, _], _ => rfl)⟩
end
end Lw
set_option Elab.async false
set_option linter.all false
set_option maxRecDepth 100000
namespace Lw
open PySem PySem.Spec PyProof.Rows L2 DL
noncomputable def b__law_is_lot : MS :=
  (sSeq (sIf (bNot (bTru (eIs2 "list" "tuple" (eVar 1)))) (sRet (eC (.bool false))) sNil)
    (sSeq (sSet 2 (eC (.int 0)))
    (sSeq (sFor (iAny (eVar 1)) (gNm 3) (sW [3] (sSeq (sIf (bOr (bNot (bTru (eIs "tuple" (eVar 3)))) (bOr (bOf (eBinF neD (eCB (c1 lenD) (aCons (eVar 3) aNil)) (eC (.int 2)))) (bOr (bNot (bTru (eCall m__law_is_stretch (aCons (eVar 0) (aCons (eBin ixD (eVar 3) (eC (.int 0))) (aCons (eBin ixD (eVar 3) (eC (.int 1))) aNil)))))) (bOf (eBin ltD (eBin ixD (eVar 3) (eC (.int 0))) (eVar 2)))))) (sRet (eC (.bool false))) sNil)
    (sSet 2 (eBin addD (eBin ixD (eVar 3) (eC (.int 0))) (eBin ixD (eVar 3) (eC (.int 1))))))))
    (sRet (eC (.bool true))))))
noncomputable def m__law_is_lot : MF := fnD 2 4 b__law_is_lot
end Lw
set_option Elab.async false
set_option linter.all false
set_option maxRecDepth 100000
set_option maxHeartbeats 8000000
namespace Lw
open PySem PySem.Spec PyProof.Rows L2 DL
section
variable {P : Program} {w : World} {K : Frg} {mg : Str → Option Value} {base : Heap}
/-! ### _law_is_lot -/
abbrev s__law_is_lot : Stmt := topS 43
abbrev N__law_is_lot : List Str := ["total", "thing", "end", "one"]
theorem sc__law_is_lot : FnScope N__law_is_lot ["total", "thing"] (defScope s__law_is_lot) := ⟨rfl, rfl, rfl, by decide +kernel, rfl, by decide +kernel, by decide +kernel⟩
theorem fn__law_is_lot {a : Addr} {fd : FuncData} (F : Fun K "_law_is_lot" "_law_is_lot" s__law_is_lot a fd) (T : Tx K w mg base) (H__law_is_stretch : Has P w K mg base "_law_is_stretch" 2 ["total", "begin", "many"] m__law_is_stretch) : FnG P w K mg base 3 a fd ["total", "thing"] m__law_is_lot := by
  have S := sc__law_is_lot
  unfold m__law_is_lot
  refine fnd2 (k := 2) (b := b__law_is_lot) F S rfl rfl (by decide) ?_
  intro cdv A outer s H gd hr
  have rm := hr
  exact (qs_cons (q_if (q_tnot (q_tru (q_isi2 rfl T.b_isinstance rfl T.b_list (by decide +kernel) rfl T.b_tuple (by decide +kernel) (q_var (pv 1))))) (qs_one (q_ret q_bl)) qs_nil)
      (qs_cons (q_set (i := 2) S.nd rfl (by first | exact Or.inl rfl | exact Or.inr rfl) q_int)
      (qs_cons (q_for PassesOwn.never rfl (q_iany (q_var (pv 1))) (q_gname (vs := [3]) (i := 3) S.nd rfl (by first | exact Or.inl rfl | exact Or.inr rfl) (by decide)) (qs_w (vs := [3]) (qs_cons (q_if (PW.pt (q_tor (q_tnot (q_tru (q_isi rfl T.b_isinstance rfl T.b_tuple (by decide +kernel) (q_var (pv 3))))) (q_tor (q_tcmpF (od_ne (room64 hr)) (q_callB cd_len rfl T.b_len (by decide +kernel) (qa_cons (q_var (pv 3)) qa_nil)) q_int) (q_tor (q_tnot (q_tru (q_callH (H__law_is_stretch.up (by decide)) gd rm rfl (qa_cons (q_var (pv 0)) (qa_cons (q_ix (q_var (pv 3)) q_int) (qa_cons (q_ix (q_var (pv 3)) q_int) qa_nil)))))) (q_tor1 (q_tcmp od_lt (q_ix (q_var (pv 3)) q_int) (q_var (pv 2)))))))) (qs_one (q_ret q_bl)) qs_nil)
      (qs_one (q_set (i := 2) S.nd rfl (by first | exact Or.inl rfl | exact Or.inr rfl) (q_bin od_add (q_ix (q_var (pv 3)) q_int) (q_ix (q_var (pv 3)) q_int)))))))
      (qs_one (q_ret q_bl)))))
theorem ok__law_is_lot {a : Addr} {fd : FuncData} (F : Fun K "_law_is_lot" "_law_is_lot" s__law_is_lot a fd) (M : mg "_law_is_lot" = some (.ref a)) (T : Tx K w mg base) (H__law_is_stretch : Has P w K mg base "_law_is_stretch" 2 ["total", "begin", "many"] m__law_is_stretch) : Has P w K mg base "_law_is_lot" 3 ["total", "thing"] m__law_is_lot :=
  ⟨a, fd, fn__law_is_lot F T  H__law_is_stretch, M, F.kp, (F.binds (ps := ["total", "thing"]) fun _ _ _ _ _ _ us hl => match us, hl with | [_, _], _ => rfl)⟩
end
end Lw
set_option Elab.async false
set_option linter.all false
set_option maxRecDepth 100000
namespace Lw
open PySem PySem.Spec PyProof.Rows L2 DL
noncomputable def b_law : MS :=
  (sSeq (sSet 1 (eCall m__law_pen (aCons (eVar 0) aNil)))
    (sSeq (sFor (iRg1 (eBin addD (eC (.int 3)) (eCB (c2 min2D) (aCons (eC (.int 5)) (aCons (eCB lenF (aCons (eVar 0) aNil)) aNil))))) (gNm 2) (sW [2, 3, 4, 5, 6, 7, 8, 9] (sSeq (sSet 3 (eCall m__law_pick (aCons (eVar 1) (aCons (eLst (aCons (eCall m__law_small (aCons (eVar 1) (aCons (eC (.int 24)) aNil))) (aCons (eCall m__law_long (aCons (eVar 1) aNil)) aNil))) aNil))))
    (sSeq (sSet 4 (eCall m__law_total (aCons (eVar 3) aNil)))
    (sSeq (sAsg (eTupT (aCons (eFrzO (eMake "Lay" m_Lay___init__ (aCons (eVar 4) (aCons (eVar 3) aNil)))) (aCons (eCall m__law_lot (aCons (eVar 1) (aCons (eVar 4) (aCons (eBin addD (eC (.int 1)) (eCall m__law_draw (aCons (eVar 1) (aCons (eC (.int 5)) aNil)))) aNil)))) aNil))) (gTpE [5, 6]))
    (sSeq (sSet 7 (eLst (aCons (eVar 6) (aCons (eCB (c1 tupleD) (aCons (eVar 6) aNil)) (aCons (eBin addD (eVar 6) (eLst (aCons (eTup (aCons (eVar 4) (aCons (eC (.int 1)) aNil))) aNil))) (aCons (eLst (aCons (eTup (aCons (eC (.int 0)) (aCons (eBin addD (eVar 4) (eC (.int 1))) aNil))) aNil)) (aCons (eCall m__law_odd (aCons (eVar 1) aNil)) aNil)))))))
    (sSeq (sSet 7 (eBin addD (eVar 7) (eFrz (eLc (iRg1 (eC (.int 4))) (gNm 10) cYes (eCall m__law_bent_lot (aCons (eVar 1) (aCons (eVar 6) (aCons (eVar 4) aNil)))) [10]))))
    (sSeq (sFor (iAny (eBin addD (eVar 7) (eLst (aCons (eCall m__law_bent_lot (aCons (eVar 1) (aCons (eLst (aCons (eTup (aCons (eC (.int 0)) (aCons (eVar 4) aNil))) aNil)) (aCons (eVar 4) aNil)))) aNil)))) (gNm 8) (sW [8, 9] (sSeq (sSet 9 (eCB (c1F reprA) (aCons (eVar 8) aNil)))
    (sIf (bOr (bOf (eBinF neD (eCB (c1F reprA) (aCons (eCall m_is_lot (aCons (eVar 5) (aCons (eVar 8) aNil))) aNil)) (eCB (c1F reprA) (aCons (eCall m__law_is_lot (aCons (eVar 4) (aCons (eVar 8) aNil))) aNil)))) (bOf (eBinF neD (eCB (c1F reprA) (aCons (eVar 8) aNil)) (eVar 9)))) (sRet (eC (.bool false))) sNil))))
    (sIf (bOf (eBin (isB true) (eCall m_is_lot (aCons (eVar 5) (aCons (eVar 6) aNil))) (eC (.bool true)))) (sRet (eC (.bool false))) sNil)))))))))
    (sRet (eAnd (eBin (isB false) (eCall m_is_lot (aCons (eFrzO (eMake "Lay" m_Lay___init__ (aCons (eC (.int 0)) (aCons (eLst aNil) aNil)))) (aCons (eLst aNil) aNil))) (eC (.bool true))) (eBin (isB false) (eCall m_is_lot (aCons (eFrzO (eMake "Lay" m_Lay___init__ (aCons (eC (.int 0)) (aCons (eLst aNil) aNil)))) (aCons (eLst (aCons (eTup (aCons (eC (.int 0)) (aCons (eC (.int 1)) aNil))) aNil)) aNil))) (eC (.bool false)))))))
noncomputable def m_law : MF := fnD 1 11 b_law
end Lw
set_option Elab.async false
set_option linter.all false
set_option maxRecDepth 100000
set_option maxHeartbeats 8000000
namespace Lw
open PySem PySem.Spec PyProof.Rows L2 DL
section
variable {P : Program} {w : World} {K : Frg} {mg : Str → Option Value} {base : Heap}
/-! ### law -/
abbrev s_law : Stmt := topS 47
abbrev N_law : List Str := ["script", "pen", "bout", "pieces", "total", "lay", "lot", "some", "thing", "kept", "k"]
theorem sc_law : FnScope N_law ["script"] (defScope s_law) := ⟨rfl, rfl, rfl, by decide +kernel, rfl, by decide +kernel, by decide +kernel⟩
theorem fn_law {a : Addr} {fd : FuncData} (F : Fun K "law" "law" s_law a fd) (T : Tx K w mg base) {A_Lay : Addr} (C_Lay : Cx_Lay K A_Lay) (H__law_pen : Has P w K mg base "_law_pen" 1 ["script"] m__law_pen) (H__law_pick : Has P w K mg base "_law_pick" 2 ["pen", "some"] m__law_pick) (H__law_small : Has P w K mg base "_law_small" 4 ["pen", "most"] m__law_small) (H__law_long : Has P w K mg base "_law_long" 4 ["pen"] m__law_long) (H__law_total : Has P w K mg base "_law_total" 1 ["pieces"] m__law_total) (K_Lay : HasC P w K mg base "Lay" A_Lay 5 ["self", "total", "pieces"] m_Lay___init__) (H__law_lot : Has P w K mg base "_law_lot" 4 ["pen", "total", "most"] m__law_lot) (H__law_draw : Has P w K mg base "_law_draw" 1 ["pen", "many"] m__law_draw) (H__law_odd : Has P w K mg base "_law_odd" 3 ["pen"] m__law_odd) (H__law_bent_lot : Has P w K mg base "_law_bent_lot" 5 ["pen", "lot", "total"] m__law_bent_lot) (H_is_lot : Has P w K mg base "is_lot" 3 ["lay", "thing"] m_is_lot) (H__law_is_lot : Has P w K mg base "_law_is_lot" 3 ["total", "thing"] m__law_is_lot) : FnG P w K mg base 7 a fd ["script"] m_law := by
  have S := sc_law
  unfold m_law
  refine fnd2 (k := 6) (b := b_law) F S rfl rfl (by decide) ?_
  intro cdv A outer s H gd hr
  have rm := hr
  exact (qs_cons (q_set (i := 1) S.nd rfl (by first | exact Or.inl rfl | exact Or.inr rfl) (q_callH (H__law_pen.up (by decide)) gd rm rfl (qa_cons (q_var (pv 0)) qa_nil)))
      (qs_cons (q_for PassesOwn.never rfl (q_irng1 rfl T.b_range (q_bin od_add q_int (q_callB (cd_min2 rfl) rfl T.b_min (by decide +kernel) (qa_cons q_int (qa_cons (q_callB cd_lenF rfl T.b_len (by decide +kernel) (qa_cons (q_var (pv 0)) qa_nil)) qa_nil))))) (q_gname (vs := [2]) (i := 2) S.nd rfl (by first | exact Or.inl rfl | exact Or.inr rfl) (by decide)) (qs_w (vs := [2, 3, 4, 5, 6, 7, 8, 9]) (qs_cons (q_set (i := 3) S.nd rfl (by first | exact Or.inl rfl | exact Or.inr rfl) (q_callH (H__law_pick.up (by decide)) gd rm rfl (qa_cons (q_var (pv 1)) (qa_cons (q_lst (qa_cons (q_callH (H__law_small.up (by decide)) gd rm rfl (qa_cons (q_var (pv 1)) (qa_cons q_int qa_nil))) (qa_cons (q_callH (H__law_long.up (by decide)) gd rm rfl (qa_cons (q_var (pv 1)) qa_nil)) qa_nil))) qa_nil))))
      (qs_cons (q_set (i := 4) S.nd rfl (by first | exact Or.inl rfl | exact Or.inr rfl) (q_callH (H__law_total.up (by decide)) gd rm rfl (qa_cons (q_var (pv 3)) qa_nil)))
      (qs_cons (q_asg (q_tupT (qa_cons (q_frzO (q_make C_Lay.cls (K_Lay.up (by decide)) gd rm rfl (qa_cons (q_var (pv 4)) (qa_cons (q_var (pv 3)) qa_nil)))) (qa_cons (q_callH (H__law_lot.up (by decide)) gd rm rfl (qa_cons (q_var (pv 1)) (qa_cons (q_var (pv 4)) (qa_cons (q_bin od_add q_int (q_callH (H__law_draw.up (by decide)) gd rm rfl (qa_cons (q_var (pv 1)) (qa_cons q_int qa_nil)))) qa_nil)))) qa_nil))) (q_gtupE (vs := [5, 6]) rfl (q_gconsE (vs := [5, 6]) (i := 5) S.nd rfl (by first | exact Or.inl rfl | exact Or.inr rfl) (q_gconsE (vs := [5, 6]) (i := 6) S.nd rfl (by first | exact Or.inl rfl | exact Or.inr rfl) q_gnilE (by decide)) (by decide))))
      (qs_cons (q_set (i := 7) S.nd rfl (by first | exact Or.inl rfl | exact Or.inr rfl) (q_lst (qa_cons (q_var (pv 6)) (qa_cons (q_callTy cd_tuple rfl T.b_tuple (by decide +kernel) (qa_cons (q_var (pv 6)) qa_nil)) (qa_cons (q_bin od_add (q_var (pv 6)) (q_lst (qa_cons (q_tup (qa_cons (q_var (pv 4)) (qa_cons q_int qa_nil))) qa_nil))) (qa_cons (q_lst (qa_cons (q_tup (qa_cons q_int (qa_cons (q_bin od_add (q_var (pv 4)) q_int) qa_nil))) qa_nil)) (qa_cons (q_callH (H__law_odd.up (by decide)) gd rm rfl (qa_cons (q_var (pv 1)) qa_nil)) qa_nil)))))))
      (qs_cons (q_set (i := 7) S.nd rfl (by first | exact Or.inl rfl | exact Or.inr rfl) (q_bin od_add (q_var (pv 7)) (q_frz (q_lc (own := [("k", 10)]) (g := (gNm 10)) (c := cYes) (f := (eCall m__law_bent_lot (aCons (eVar 1) (aCons (eVar 6) (aCons (eVar 4) aNil))))) rfl S.nd (q_irng1 rfl T.b_range q_int) (blkOk_by (N := N_law) (sc := defScope s_law) (by decide +kernel)) (fun _ _ _ _ _ => (q_gname (vs := [10]) (i := 10) S.nd rfl (by first | exact Or.inl rfl | exact Or.inr rfl) (by decide))) (fun _ _ _ _ _ => q_tsnil) (fun _ _ _ _ _ => (q_callH (H__law_bent_lot.up (by decide)) gd rm rfl (qa_cons (q_var (pv 1)) (qa_cons (q_var (pv 6)) (qa_cons (q_var (pv 4)) qa_nil)))))))))
      (qs_cons (q_for PassesOwn.never rfl (q_iany (q_bin od_add (q_var (pv 7)) (q_lst (qa_cons (q_callH (H__law_bent_lot.up (by decide)) gd rm rfl (qa_cons (q_var (pv 1)) (qa_cons (q_lst (qa_cons (q_tup (qa_cons q_int (qa_cons (q_var (pv 4)) qa_nil))) qa_nil)) (qa_cons (q_var (pv 4)) qa_nil)))) qa_nil)))) (q_gname (vs := [8]) (i := 8) S.nd rfl (by first | exact Or.inl rfl | exact Or.inr rfl) (by decide)) (qs_w (vs := [8, 9]) (qs_cons (q_set (i := 9) S.nd rfl (by first | exact Or.inl rfl | exact Or.inr rfl) (q_callB (cd_reprA gd (room65 hr) T.sys) rfl T.b_repr (by decide +kernel) (qa_cons (q_var (pv 8)) qa_nil)))
      (qs_one (q_if (PW.pt (q_tor (q_tcmpF (od_ne (room64 hr)) (q_callB (cd_reprA gd (room65 hr) T.sys) rfl T.b_repr (by decide +kernel) (qa_cons (q_callH (H_is_lot.up (by decide)) gd rm rfl (qa_cons (q_var (pv 5)) (qa_cons (q_var (pv 8)) qa_nil))) qa_nil)) (q_callB (cd_reprA gd (room65 hr) T.sys) rfl T.b_repr (by decide +kernel) (qa_cons (q_callH (H__law_is_lot.up (by decide)) gd rm rfl (qa_cons (q_var (pv 4)) (qa_cons (q_var (pv 8)) qa_nil))) qa_nil))) (q_tor1 (q_tcmpF (od_ne (room64 hr)) (q_callB (cd_reprA gd (room65 hr) T.sys) rfl T.b_repr (by decide +kernel) (qa_cons (q_var (pv 8)) qa_nil)) (q_var (pv 9)))))) (qs_one (q_ret q_bl)) qs_nil)))))
      (qs_one (q_if (q_tcmp od_isnot (q_callH (H_is_lot.up (by decide)) gd rm rfl (qa_cons (q_var (pv 5)) (qa_cons (q_var (pv 6)) qa_nil))) q_bl) (qs_one (q_ret q_bl)) qs_nil))))))))))
      (qs_one (q_ret (q_and (q_cmp od_is (q_callH (H_is_lot.up (by decide)) gd rm rfl (qa_cons (q_frzO (q_make C_Lay.cls (K_Lay.up (by decide)) gd rm rfl (qa_cons q_int (qa_cons (q_lst qa_nil) qa_nil)))) (qa_cons (q_lst qa_nil) qa_nil))) q_bl) (q_one (q_cmp od_is (q_callH (H_is_lot.up (by decide)) gd rm rfl (qa_cons (q_frzO (q_make C_Lay.cls (K_Lay.up (by decide)) gd rm rfl (qa_cons q_int (qa_cons (q_lst qa_nil) qa_nil)))) (qa_cons (q_lst (qa_cons (q_tup (qa_cons q_int (qa_cons q_int qa_nil))) qa_nil)) qa_nil))) q_bl)))))))
theorem ok_law {a : Addr} {fd : FuncData} (F : Fun K "law" "law" s_law a fd) (M : mg "law" = some (.ref a)) (T : Tx K w mg base) {A_Lay : Addr} (C_Lay : Cx_Lay K A_Lay) (H__law_pen : Has P w K mg base "_law_pen" 1 ["script"] m__law_pen) (H__law_pick : Has P w K mg base "_law_pick" 2 ["pen", "some"] m__law_pick) (H__law_small : Has P w K mg base "_law_small" 4 ["pen", "most"] m__law_small) (H__law_long : Has P w K mg base "_law_long" 4 ["pen"] m__law_long) (H__law_total : Has P w K mg base "_law_total" 1 ["pieces"] m__law_total) (K_Lay : HasC P w K mg base "Lay" A_Lay 5 ["self", "total", "pieces"] m_Lay___init__) (H__law_lot : Has P w K mg base "_law_lot" 4 ["pen", "total", "most"] m__law_lot) (H__law_draw : Has P w K mg base "_law_draw" 1 ["pen", "many"] m__law_draw) (H__law_odd : Has P w K mg base "_law_odd" 3 ["pen"] m__law_odd) (H__law_bent_lot : Has P w K mg base "_law_bent_lot" 5 ["pen", "lot", "total"] m__law_bent_lot) (H_is_lot : Has P w K mg base "is_lot" 3 ["lay", "thing"] m_is_lot) (H__law_is_lot : Has P w K mg base "_law_is_lot" 3 ["total", "thing"] m__law_is_lot) : Has P w K mg base "law" 7 ["script"] m_law :=
  ⟨a, fd, fn_law F T C_Lay H__law_pen H__law_pick H__law_small H__law_long H__law_total K_Lay H__law_lot H__law_draw H__law_odd H__law_bent_lot H_is_lot H__law_is_lot, M, F.kp, (F.binds (ps := ["script"]) fun _ _ _ _ _ _ us hl => match us, hl with | [_], _ => rfl)⟩
end
end Lw
set_option Elab.async false
set_option linter.all false
set_option maxRecDepth 100000
set_option maxHeartbeats 8000000
namespace Lw
open PySem PySem.Spec PyProof.Rows L2 DL
theorem all_mk {l : PySem.W.OpenLaw} {w : World} {K : Frg} {h : Heap} {mg : Str → Option Value} {fa : Addr} (X : K.In h) (Gm : h.Ns mainGlobals mg) (hfa : mg "law" = some (.ref fa))
    {A_Lay : Addr} (q_Lay : PySem.W.nsIn K mainGlobals "Lay" = some (some (.ref A_Lay))) (pg_Lay : PySem.W.plainGet K A_Lay Str.empty = true) (hd_Lay : PySem.W.hasDictIn K A_Lay = true) (po_Lay : PySem.W.plainOver K A_Lay = true) (sa_Lay : PySem.W.findIn K (.ref A_Lay) "__setattr__" = some (some (.builtin "object.__setattr__"))) (mk_Lay : PySem.W.makesIn K A_Lay = true) (kc_Lay : PySem.W.keepIn K (.ref A_Lay) = true)
    (na_Lay__pieces : PySem.W.findIn K (.ref A_Lay) "_pieces" = some none)
    (na_Lay__total : PySem.W.findIn K (.ref A_Lay) "_total" = some none)
    {f0 : Addr} {od0 an0 : Option Addr} {sl0 : Array (Option Value)} {oc0 kV0 dc0 pm0 cd0 ct0 : Value}
    (a0 : PySem.W.nsIn K mainGlobals "_law_pen" = some (some (.ref f0))) (l0 : K.lookup f0 = some ⟨oc0, od0, .func (PySem.W.fnOf "_law_pen" "_law_pen" (defArgs s__law_pen) (defBody s__law_pen) (defScope s__law_pen) .none kV0 dc0 pm0 an0 cd0 ct0), sl0⟩) (c0 : PySem.W.codeIn K cd0 "_law_pen" = true) (k0 : PySem.W.keepIn K (.ref f0) = true)
    {f1 : Addr} {od1 an1 : Option Addr} {sl1 : Array (Option Value)} {oc1 kV1 dc1 pm1 cd1 ct1 : Value}
    (a1 : PySem.W.nsIn K mainGlobals "_law_draw" = some (some (.ref f1))) (l1 : K.lookup f1 = some ⟨oc1, od1, .func (PySem.W.fnOf "_law_draw" "_law_draw" (defArgs s__law_draw) (defBody s__law_draw) (defScope s__law_draw) .none kV1 dc1 pm1 an1 cd1 ct1), sl1⟩) (c1 : PySem.W.codeIn K cd1 "_law_draw" = true) (k1 : PySem.W.keepIn K (.ref f1) = true)
    {f2 : Addr} {od2 an2 : Option Addr} {sl2 : Array (Option Value)} {oc2 kV2 dc2 pm2 cd2 ct2 : Value}
    (a2 : PySem.W.nsIn K mainGlobals "_law_pick" = some (some (.ref f2))) (l2 : K.lookup f2 = some ⟨oc2, od2, .func (PySem.W.fnOf "_law_pick" "_law_pick" (defArgs s__law_pick) (defBody s__law_pick) (defScope s__law_pick) .none kV2 dc2 pm2 an2 cd2 ct2), sl2⟩) (c2 : PySem.W.codeIn K cd2 "_law_pick" = true) (k2 : PySem.W.keepIn K (.ref f2) = true)
    {f3 : Addr} {od3 an3 : Option Addr} {sl3 : Array (Option Value)} {oc3 kV3 dc3 pm3 cd3 ct3 : Value}
    (a3 : PySem.W.nsIn K mainGlobals "_law_turned_about" = some (some (.ref f3))) (l3 : K.lookup f3 = some ⟨oc3, od3, .func (PySem.W.fnOf "_law_turned_about" "_law_turned_about" (defArgs s__law_turned_about) (defBody s__law_turned_about) (defScope s__law_turned_about) .none kV3 dc3 pm3 an3 cd3 ct3), sl3⟩) (c3 : PySem.W.codeIn K cd3 "_law_turned_about" = true) (k3 : PySem.W.keepIn K (.ref f3) = true)
    {f4 : Addr} {od4 an4 : Option Addr} {sl4 : Array (Option Value)} {oc4 kV4 dc4 pm4 cd4 ct4 : Value}
    (a4 : PySem.W.nsIn K mainGlobals "_law_pieces" = some (some (.ref f4))) (l4 : K.lookup f4 = some ⟨oc4, od4, .func (PySem.W.fnOf "_law_pieces" "_law_pieces" (defArgs s__law_pieces) (defBody s__law_pieces) (defScope s__law_pieces) .none kV4 dc4 pm4 an4 cd4 ct4), sl4⟩) (c4 : PySem.W.codeIn K cd4 "_law_pieces" = true) (k4 : PySem.W.keepIn K (.ref f4) = true)
    {f5 : Addr} {od5 an5 : Option Addr} {sl5 : Array (Option Value)} {oc5 kV5 dc5 pm5 cd5 ct5 : Value}
    (a5 : PySem.W.nsIn K mainGlobals "_law_small" = some (some (.ref f5))) (l5 : K.lookup f5 = some ⟨oc5, od5, .func (PySem.W.fnOf "_law_small" "_law_small" (defArgs s__law_small) (defBody s__law_small) (defScope s__law_small) .none kV5 dc5 pm5 an5 cd5 ct5), sl5⟩) (c5 : PySem.W.codeIn K cd5 "_law_small" = true) (k5 : PySem.W.keepIn K (.ref f5) = true)
    {f6 : Addr} {od6 an6 : Option Addr} {sl6 : Array (Option Value)} {oc6 kV6 dc6 pm6 cd6 ct6 : Value}
    (a6 : PySem.W.nsIn K mainGlobals "_law_great" = some (some (.ref f6))) (l6 : K.lookup f6 = some ⟨oc6, od6, .func (PySem.W.fnOf "_law_great" "_law_great" (defArgs s__law_great) (defBody s__law_great) (defScope s__law_great) .none kV6 dc6 pm6 an6 cd6 ct6), sl6⟩) (c6 : PySem.W.codeIn K cd6 "_law_great" = true) (k6 : PySem.W.keepIn K (.ref f6) = true)
    {f7 : Addr} {od7 an7 : Option Addr} {sl7 : Array (Option Value)} {oc7 kV7 dc7 pm7 cd7 ct7 : Value}
    (a7 : PySem.W.nsIn K mainGlobals "_law_long" = some (some (.ref f7))) (l7 : K.lookup f7 = some ⟨oc7, od7, .func (PySem.W.fnOf "_law_long" "_law_long" (defArgs s__law_long) (defBody s__law_long) (defScope s__law_long) .none kV7 dc7 pm7 an7 cd7 ct7), sl7⟩) (c7 : PySem.W.codeIn K cd7 "_law_long" = true) (k7 : PySem.W.keepIn K (.ref f7) = true)
    {f8 : Addr} {od8 an8 : Option Addr} {sl8 : Array (Option Value)} {oc8 kV8 dc8 pm8 cd8 ct8 : Value}
    (a8 : PySem.W.nsIn K mainGlobals "_law_total" = some (some (.ref f8))) (l8 : K.lookup f8 = some ⟨oc8, od8, .func (PySem.W.fnOf "_law_total" "_law_total" (defArgs s__law_total) (defBody s__law_total) (defScope s__law_total) .none kV8 dc8 pm8 an8 cd8 ct8), sl8⟩) (c8 : PySem.W.codeIn K cd8 "_law_total" = true) (k8 : PySem.W.keepIn K (.ref f8) = true)
    {f9 : Addr} {od9 an9 : Option Addr} {sl9 : Array (Option Value)} {oc9 kV9 dc9 pm9 cd9 ct9 : Value}
    (a9 : PySem.W.nsIn K mainGlobals "is_whole" = some (some (.ref f9))) (l9 : K.lookup f9 = some ⟨oc9, od9, .func (PySem.W.fnOf "is_whole" "is_whole" (defArgs s_is_whole) (defBody s_is_whole) (defScope s_is_whole) .none kV9 dc9 pm9 an9 cd9 ct9), sl9⟩) (c9 : PySem.W.codeIn K cd9 "is_whole" = true) (k9 : PySem.W.keepIn K (.ref f9) = true)
    {f10 : Addr} {od10 an10 : Option Addr} {sl10 : Array (Option Value)} {oc10 kV10 dc10 pm10 cd10 ct10 : Value}
    (a10 : PySem.W.nsIn K mainGlobals "is_from_to" = some (some (.ref f10))) (l10 : K.lookup f10 = some ⟨oc10, od10, .func (PySem.W.fnOf "is_from_to" "is_from_to" (defArgs s_is_from_to) (defBody s_is_from_to) (defScope s_is_from_to) .none kV10 dc10 pm10 an10 cd10 ct10), sl10⟩) (c10 : PySem.W.codeIn K cd10 "is_from_to" = true) (k10 : PySem.W.keepIn K (.ref f10) = true)
    {f11 : Addr} {od11 an11 : Option Addr} {sl11 : Array (Option Value)} {oc11 kV11 dc11 pm11 cd11 ct11 : Value}
    (a11 : PySem.W.nsIn K mainGlobals "are_whole" = some (some (.ref f11))) (l11 : K.lookup f11 = some ⟨oc11, od11, .func (PySem.W.fnOf "are_whole" "are_whole" (defArgs s_are_whole) (defBody s_are_whole) (defScope s_are_whole) .none kV11 dc11 pm11 an11 cd11 ct11), sl11⟩) (c11 : PySem.W.codeIn K cd11 "are_whole" = true) (k11 : PySem.W.keepIn K (.ref f11) = true)
    {f12 : Addr} {od12 an12 : Option Addr} {sl12 : Array (Option Value)} {oc12 kV12 dc12 pm12 cd12 ct12 : Value}
    (a12 : PySem.W.nsIn K mainGlobals "is_within" = some (some (.ref f12))) (l12 : K.lookup f12 = some ⟨oc12, od12, .func (PySem.W.fnOf "is_within" "is_within" (defArgs s_is_within) (defBody s_is_within) (defScope s_is_within) .none kV12 dc12 pm12 an12 cd12 ct12), sl12⟩) (c12 : PySem.W.codeIn K cd12 "is_within" = true) (k12 : PySem.W.keepIn K (.ref f12) = true)
    {f13 : Addr} {od13 an13 : Option Addr} {sl13 : Array (Option Value)} {oc13 kV13 dc13 pm13 cd13 ct13 : Value}
    (a13 : PySem.W.nsIn K mainGlobals "_is_piece" = some (some (.ref f13))) (l13 : K.lookup f13 = some ⟨oc13, od13, .func (PySem.W.fnOf "_is_piece" "_is_piece" (defArgs s__is_piece) (defBody s__is_piece) (defScope s__is_piece) .none kV13 dc13 pm13 an13 cd13 ct13), sl13⟩) (c13 : PySem.W.codeIn K cd13 "_is_piece" = true) (k13 : PySem.W.keepIn K (.ref f13) = true)
    {f14 : Addr} {od14 an14 : Option Addr} {sl14 : Array (Option Value)} {oc14 kV14 dc14 pm14 cd14 ct14 : Value}
    (a14 : PySem.W.nsIn K mainGlobals "_are_pieces" = some (some (.ref f14))) (l14 : K.lookup f14 = some ⟨oc14, od14, .func (PySem.W.fnOf "_are_pieces" "_are_pieces" (defArgs s__are_pieces) (defBody s__are_pieces) (defScope s__are_pieces) .none kV14 dc14 pm14 an14 cd14 ct14), sl14⟩) (c14 : PySem.W.codeIn K cd14 "_are_pieces" = true) (k14 : PySem.W.keepIn K (.ref f14) = true)
    {f15 : Addr} {od15 an15 : Option Addr} {sl15 : Array (Option Value)} {oc15 kV15 dc15 pm15 cd15 ct15 : Value}
    (a15 : PySem.W.nsIn K mainGlobals "_fill" = some (some (.ref f15))) (l15 : K.lookup f15 = some ⟨oc15, od15, .func (PySem.W.fnOf "_fill" "_fill" (defArgs s__fill) (defBody s__fill) (defScope s__fill) .none kV15 dc15 pm15 an15 cd15 ct15), sl15⟩) (c15 : PySem.W.codeIn K cd15 "_fill" = true) (k15 : PySem.W.keepIn K (.ref f15) = true)
    {f16 : Addr} {od16 an16 : Option Addr} {sl16 : Array (Option Value)} {oc16 kV16 dc16 pm16 cd16 ct16 : Value}
    (a16 : PySem.W.nsIn K mainGlobals "back_of" = some (some (.ref f16))) (l16 : K.lookup f16 = some ⟨oc16, od16, .func (PySem.W.fnOf "back_of" "back_of" (defArgs s_back_of) (defBody s_back_of) (defScope s_back_of) .none kV16 dc16 pm16 an16 cd16 ct16), sl16⟩) (c16 : PySem.W.codeIn K cd16 "back_of" = true) (k16 : PySem.W.keepIn K (.ref f16) = true)
    {f17 : Addr} {od17 an17 : Option Addr} {sl17 : Array (Option Value)} {oc17 kV17 dc17 pm17 cd17 ct17 : Value}
    (a17 : PySem.W.nsIn K mainGlobals "goes_on" = some (some (.ref f17))) (l17 : K.lookup f17 = some ⟨oc17, od17, .func (PySem.W.fnOf "goes_on" "goes_on" (defArgs s_goes_on) (defBody s_goes_on) (defScope s_goes_on) .none kV17 dc17 pm17 an17 cd17 ct17), sl17⟩) (c17 : PySem.W.codeIn K cd17 "goes_on" = true) (k17 : PySem.W.keepIn K (.ref f17) = true)
    {f18 : Addr} {od18 an18 : Option Addr} {sl18 : Array (Option Value)} {oc18 kV18 dc18 pm18 cd18 ct18 : Value}
    (a18 : PySem.W.nsIn K mainGlobals "_one_form" = some (some (.ref f18))) (l18 : K.lookup f18 = some ⟨oc18, od18, .func (PySem.W.fnOf "_one_form" "_one_form" (defArgs s__one_form) (defBody s__one_form) (defScope s__one_form) .none kV18 dc18 pm18 an18 cd18 ct18), sl18⟩) (c18 : PySem.W.codeIn K cd18 "_one_form" = true) (k18 : PySem.W.keepIn K (.ref f18) = true)
    {f19 : Addr} {od19 an19 : Option Addr} {sl19 : Array (Option Value)} {oc19 kV19 dc19 pm19 cd19 ct19 : Value}
    (a19 : PySem.W.findIn K (.ref A_Lay) "__init__" = some (some (.ref f19))) (i19 : PySem.W.isFn K (.ref f19) = true) (l19 : K.lookup f19 = some ⟨oc19, od19, .func (PySem.W.fnOf "__init__" "Lay.__init__" (defArgs s_Lay___init__) (defBody s_Lay___init__) (defScope s_Lay___init__) .none kV19 dc19 pm19 an19 cd19 ct19), sl19⟩) (c19 : PySem.W.codeIn K cd19 "Lay.__init__" = true) (k19 : PySem.W.keepIn K (.ref f19) = true)
    {f20 : Addr} {od20 an20 : Option Addr} {sl20 : Array (Option Value)} {oc20 kV20 dc20 pm20 cd20 ct20 : Value}
    (a20 : PySem.W.nsIn K mainGlobals "_law_below" = some (some (.ref f20))) (l20 : K.lookup f20 = some ⟨oc20, od20, .func (PySem.W.fnOf "_law_below" "_law_below" (defArgs s__law_below) (defBody s__law_below) (defScope s__law_below) .none kV20 dc20 pm20 an20 cd20 ct20), sl20⟩) (c20 : PySem.W.codeIn K cd20 "_law_below" = true) (k20 : PySem.W.keepIn K (.ref f20) = true)
    {f21 : Addr} {od21 an21 : Option Addr} {sl21 : Array (Option Value)} {oc21 kV21 dc21 pm21 cd21 ct21 : Value}
    (a21 : PySem.W.nsIn K mainGlobals "_law_lot" = some (some (.ref f21))) (l21 : K.lookup f21 = some ⟨oc21, od21, .func (PySem.W.fnOf "_law_lot" "_law_lot" (defArgs s__law_lot) (defBody s__law_lot) (defScope s__law_lot) .none kV21 dc21 pm21 an21 cd21 ct21), sl21⟩) (c21 : PySem.W.codeIn K cd21 "_law_lot" = true) (k21 : PySem.W.keepIn K (.ref f21) = true)
    {f22 : Addr} {od22 an22 : Option Addr} {sl22 : Array (Option Value)} {oc22 kV22 dc22 pm22 cd22 ct22 : Value}
    (a22 : PySem.W.nsIn K mainGlobals "_law_odd" = some (some (.ref f22))) (l22 : K.lookup f22 = some ⟨oc22, od22, .func (PySem.W.fnOf "_law_odd" "_law_odd" (defArgs s__law_odd) (defBody s__law_odd) (defScope s__law_odd) .none kV22 dc22 pm22 an22 cd22 ct22), sl22⟩) (c22 : PySem.W.codeIn K cd22 "_law_odd" = true) (k22 : PySem.W.keepIn K (.ref f22) = true)
    {f23 : Addr} {od23 an23 : Option Addr} {sl23 : Array (Option Value)} {oc23 kV23 dc23 pm23 cd23 ct23 : Value}
    (a23 : PySem.W.nsIn K mainGlobals "_law_bent_tuple" = some (some (.ref f23))) (l23 : K.lookup f23 = some ⟨oc23, od23, .func (PySem.W.fnOf "_law_bent_tuple" "_law_bent_tuple" (defArgs s__law_bent_tuple) (defBody s__law_bent_tuple) (defScope s__law_bent_tuple) .none kV23 dc23 pm23 an23 cd23 ct23), sl23⟩) (c23 : PySem.W.codeIn K cd23 "_law_bent_tuple" = true) (k23 : PySem.W.keepIn K (.ref f23) = true)
    {f24 : Addr} {od24 an24 : Option Addr} {sl24 : Array (Option Value)} {oc24 kV24 dc24 pm24 cd24 ct24 : Value}
    (a24 : PySem.W.nsIn K mainGlobals "_law_bent_lot" = some (some (.ref f24))) (l24 : K.lookup f24 = some ⟨oc24, od24, .func (PySem.W.fnOf "_law_bent_lot" "_law_bent_lot" (defArgs s__law_bent_lot) (defBody s__law_bent_lot) (defScope s__law_bent_lot) .none kV24 dc24 pm24 an24 cd24 ct24), sl24⟩) (c24 : PySem.W.codeIn K cd24 "_law_bent_lot" = true) (k24 : PySem.W.keepIn K (.ref f24) = true)
    {f25 : Addr} {od25 an25 : Option Addr} {sl25 : Array (Option Value)} {oc25 kV25 dc25 pm25 cd25 ct25 : Value}
    (a25 : PySem.W.findIn K (.ref A_Lay) "spots" = some (some (.ref f25))) (i25 : PySem.W.isFn K (.ref f25) = true) (l25 : K.lookup f25 = some ⟨oc25, od25, .func (PySem.W.fnOf "spots" "Lay.spots" (defArgs s_Lay_spots) (defBody s_Lay_spots) (defScope s_Lay_spots) .none kV25 dc25 pm25 an25 cd25 ct25), sl25⟩) (c25 : PySem.W.codeIn K cd25 "Lay.spots" = true) (k25 : PySem.W.keepIn K (.ref f25) = true)
    {f26 : Addr} {od26 an26 : Option Addr} {sl26 : Array (Option Value)} {oc26 kV26 dc26 pm26 cd26 ct26 : Value}
    (a26 : PySem.W.nsIn K mainGlobals "is_lot" = some (some (.ref f26))) (l26 : K.lookup f26 = some ⟨oc26, od26, .func (PySem.W.fnOf "is_lot" "is_lot" (defArgs s_is_lot) (defBody s_is_lot) (defScope s_is_lot) .none kV26 dc26 pm26 an26 cd26 ct26), sl26⟩) (c26 : PySem.W.codeIn K cd26 "is_lot" = true) (k26 : PySem.W.keepIn K (.ref f26) = true)
    {f27 : Addr} {od27 an27 : Option Addr} {sl27 : Array (Option Value)} {oc27 kV27 dc27 pm27 cd27 ct27 : Value}
    (a27 : PySem.W.nsIn K mainGlobals "_law_is_num" = some (some (.ref f27))) (l27 : K.lookup f27 = some ⟨oc27, od27, .func (PySem.W.fnOf "_law_is_num" "_law_is_num" (defArgs s__law_is_num) (defBody s__law_is_num) (defScope s__law_is_num) .none kV27 dc27 pm27 an27 cd27 ct27), sl27⟩) (c27 : PySem.W.codeIn K cd27 "_law_is_num" = true) (k27 : PySem.W.keepIn K (.ref f27) = true)
    {f28 : Addr} {od28 an28 : Option Addr} {sl28 : Array (Option Value)} {oc28 kV28 dc28 pm28 cd28 ct28 : Value}
    (a28 : PySem.W.nsIn K mainGlobals "_law_is_stretch" = some (some (.ref f28))) (l28 : K.lookup f28 = some ⟨oc28, od28, .func (PySem.W.fnOf "_law_is_stretch" "_law_is_stretch" (defArgs s__law_is_stretch) (defBody s__law_is_stretch) (defScope s__law_is_stretch) .none kV28 dc28 pm28 an28 cd28 ct28), sl28⟩) (c28 : PySem.W.codeIn K cd28 "_law_is_stretch" = true) (k28 : PySem.W.keepIn K (.ref f28) = true)
    {f29 : Addr} {od29 an29 : Option Addr} {sl29 : Array (Option Value)} {oc29 kV29 dc29 pm29 cd29 ct29 : Value}
    (a29 : PySem.W.nsIn K mainGlobals "_law_is_lot" = some (some (.ref f29))) (l29 : K.lookup f29 = some ⟨oc29, od29, .func (PySem.W.fnOf "_law_is_lot" "_law_is_lot" (defArgs s__law_is_lot) (defBody s__law_is_lot) (defScope s__law_is_lot) .none kV29 dc29 pm29 an29 cd29 ct29), sl29⟩) (c29 : PySem.W.codeIn K cd29 "_law_is_lot" = true) (k29 : PySem.W.keepIn K (.ref f29) = true)
    {f30 : Addr} {od30 an30 : Option Addr} {sl30 : Array (Option Value)} {oc30 kV30 dc30 pm30 cd30 ct30 : Value}
    (a30 : PySem.W.nsIn K mainGlobals "law" = some (some (.ref f30))) (l30 : K.lookup f30 = some ⟨oc30, od30, .func (PySem.W.fnOf "law" "law" (defArgs s_law) (defBody s_law) (defScope s_law) .none kV30 dc30 pm30 an30 cd30 ct30), sl30⟩) (c30 : PySem.W.codeIn K cd30 "law" = true) (k30 : PySem.W.keepIn K (.ref f30) = true)
    (z_abs : PySem.W.nsIn K mainGlobals "abs" = some none)
    (z_all : PySem.W.nsIn K mainGlobals "all" = some none)
    (z_bool : PySem.W.nsIn K mainGlobals "bool" = some none)
    (z_int : PySem.W.nsIn K mainGlobals "int" = some none)
    (z_isinstance : PySem.W.nsIn K mainGlobals "isinstance" = some none)
    (z_len : PySem.W.nsIn K mainGlobals "len" = some none)
    (z_list : PySem.W.nsIn K mainGlobals "list" = some none)
    (z_max : PySem.W.nsIn K mainGlobals "max" = some none)
    (z_min : PySem.W.nsIn K mainGlobals "min" = some none)
    (z_range : PySem.W.nsIn K mainGlobals "range" = some none)
    (z_repr : PySem.W.nsIn K mainGlobals "repr" = some none)
    (z_sorted : PySem.W.nsIn K mainGlobals "sorted" = some none)
    (z_str : PySem.W.nsIn K mainGlobals "str" = some none)
    (z_sum : PySem.W.nsIn K mainGlobals "sum" = some none)
    (z_tuple : PySem.W.nsIn K mainGlobals "tuple" = some none)
    {t_MOST_SPOTS : Tok} (y_MOST_SPOTS : PySem.W.nsIn K mainGlobals "MOST_SPOTS" = some (some (.int 2000000000000000000 t_MOST_SPOTS)))
    : ∃ fd : FuncData, (∀ (s : Shared) (v : Value), BindsTo s fd ⟨[v], []⟩ [("script", v)]) ∧ ∀ base : Heap, K.In base → base.Ns mainGlobals mg → HasSys base → FnG l.prog w K mg base 7 fa fd ["script"] m_law := by
  have e := hfa.symm.trans (PySem.W.mg_of X Gm a30)
  cases e
  have C_Lay : Cx_Lay K A_Lay := ⟨⟨q_Lay, ⟨pg_Lay, hd_Lay, po_Lay, sa_Lay⟩⟩, na_Lay__pieces, na_Lay__total⟩
  refine ⟨PySem.W.fnOf "law" "law" (defArgs s_law) (defBody s_law) (defScope s_law) .none kV30 dc30 pm30 an30 cd30 ct30, fun s v => .of_eq rfl, fun base _ _ sy => ?_⟩
  have T : Tx K w mg base := ⟨sy, PySem.W.mg_none_of X Gm z_abs, PySem.W.mg_none_of X Gm z_all, PySem.W.mg_none_of X Gm z_bool, PySem.W.mg_none_of X Gm z_int, PySem.W.mg_none_of X Gm z_isinstance, PySem.W.mg_none_of X Gm z_len, PySem.W.mg_none_of X Gm z_list, PySem.W.mg_none_of X Gm z_max, PySem.W.mg_none_of X Gm z_min, PySem.W.mg_none_of X Gm z_range, PySem.W.mg_none_of X Gm z_repr, PySem.W.mg_none_of X Gm z_sorted, PySem.W.mg_none_of X Gm z_str, PySem.W.mg_none_of X Gm z_sum, PySem.W.mg_none_of X Gm z_tuple, ⟨_, PySem.W.mg_of X Gm y_MOST_SPOTS⟩⟩
  have H__law_pen := ok__law_pen (P := l.prog) (w := w) (base := base) (fun_mk (st := s__law_pen) l0 c0 k0) (PySem.W.mg_of X Gm a0) T 
  have H__law_draw := ok__law_draw (P := l.prog) (w := w) (base := base) (fun_mk (st := s__law_draw) l1 c1 k1) (PySem.W.mg_of X Gm a1) T 
  have H__law_pick := ok__law_pick (P := l.prog) (w := w) (base := base) (fun_mk (st := s__law_pick) l2 c2 k2) (PySem.W.mg_of X Gm a2) T H__law_draw
  have H__law_turned_about := ok__law_turned_about (P := l.prog) (w := w) (base := base) (fun_mk (st := s__law_turned_about) l3 c3 k3) (PySem.W.mg_of X Gm a3) T H__law_draw
  have H__law_pieces := ok__law_pieces (P := l.prog) (w := w) (base := base) (fun_mk (st := s__law_pieces) l4 c4 k4) (PySem.W.mg_of X Gm a4) T H__law_turned_about H__law_pick
  have H__law_small := ok__law_small (P := l.prog) (w := w) (base := base) (fun_mk (st := s__law_small) l5 c5 k5) (PySem.W.mg_of X Gm a5) T H__law_draw H__law_pieces
  have H__law_great := ok__law_great (P := l.prog) (w := w) (base := base) (fun_mk (st := s__law_great) l6 c6 k6) (PySem.W.mg_of X Gm a6) T H__law_draw
  have H__law_long := ok__law_long (P := l.prog) (w := w) (base := base) (fun_mk (st := s__law_long) l7 c7 k7) (PySem.W.mg_of X Gm a7) T H__law_draw H__law_great H__law_pieces
  have H__law_total := ok__law_total (P := l.prog) (w := w) (base := base) (fun_mk (st := s__law_total) l8 c8 k8) (PySem.W.mg_of X Gm a8) T 
  have H_is_whole := ok_is_whole (P := l.prog) (w := w) (base := base) (fun_mk (st := s_is_whole) l9 c9 k9) (PySem.W.mg_of X Gm a9) T 
  have H_is_from_to := ok_is_from_to (P := l.prog) (w := w) (base := base) (fun_mk (st := s_is_from_to) l10 c10 k10) (PySem.W.mg_of X Gm a10) T H_is_whole
  have H_are_whole := ok_are_whole (P := l.prog) (w := w) (base := base) (fun_mk (st := s_are_whole) l11 c11 k11) (PySem.W.mg_of X Gm a11) T H_is_whole
  have H_is_within := ok_is_within (P := l.prog) (w := w) (base := base) (fun_mk (st := s_is_within) l12 c12 k12) (PySem.W.mg_of X Gm a12) T 
  have H__is_piece := ok__is_piece (P := l.prog) (w := w) (base := base) (fun_mk (st := s__is_piece) l13 c13 k13) (PySem.W.mg_of X Gm a13) T H_are_whole H_is_within
  have H__are_pieces := ok__are_pieces (P := l.prog) (w := w) (base := base) (fun_mk (st := s__are_pieces) l14 c14 k14) (PySem.W.mg_of X Gm a14) T H__is_piece
  have H__fill := ok__fill (P := l.prog) (w := w) (base := base) (fun_mk (st := s__fill) l15 c15 k15) (PySem.W.mg_of X Gm a15) T 
  have H_back_of := ok_back_of (P := l.prog) (w := w) (base := base) (fun_mk (st := s_back_of) l16 c16 k16) (PySem.W.mg_of X Gm a16) T 
  have H_goes_on := ok_goes_on (P := l.prog) (w := w) (base := base) (fun_mk (st := s_goes_on) l17 c17 k17) (PySem.W.mg_of X Gm a17) T 
  have H__one_form := ok__one_form (P := l.prog) (w := w) (base := base) (fun_mk (st := s__one_form) l18 c18 k18) (PySem.W.mg_of X Gm a18) T H_goes_on
  have K_Lay := ok_Lay___init__ (P := l.prog) (w := w) (base := base) (fun_mk (st := s_Lay___init__) l19 c19 k19) ⟨mk_Lay, a19, i19, kc_Lay⟩ (PySem.W.mg_of X Gm q_Lay) T C_Lay H_is_from_to H__are_pieces H__fill H_back_of H__one_form
  have H__law_below := ok__law_below (P := l.prog) (w := w) (base := base) (fun_mk (st := s__law_below) l20 c20 k20) (PySem.W.mg_of X Gm a20) T H__law_draw H__law_great
  have H__law_lot := ok__law_lot (P := l.prog) (w := w) (base := base) (fun_mk (st := s__law_lot) l21 c21 k21) (PySem.W.mg_of X Gm a21) T H__law_draw H__law_below
  have H__law_odd := ok__law_odd (P := l.prog) (w := w) (base := base) (fun_mk (st := s__law_odd) l22 c22 k22) (PySem.W.mg_of X Gm a22) T H__law_pick
  have H__law_bent_tuple := ok__law_bent_tuple (P := l.prog) (w := w) (base := base) (fun_mk (st := s__law_bent_tuple) l23 c23 k23) (PySem.W.mg_of X Gm a23) T H__law_draw H__law_pick H__law_odd
  have H__law_bent_lot := ok__law_bent_lot (P := l.prog) (w := w) (base := base) (fun_mk (st := s__law_bent_lot) l24 c24 k24) (PySem.W.mg_of X Gm a24) T H__law_pick H__law_draw H__law_bent_tuple H__law_odd
  have H_Lay_spots := ok_Lay_spots (P := l.prog) (w := w) (base := base) (fun_mk (st := s_Lay_spots) l25 c25 k25) ⟨a25, i25, k25⟩ T C_Lay
  have H_is_lot := ok_is_lot (P := l.prog) (w := w) (base := base) (fun_mk (st := s_is_lot) l26 c26 k26) (PySem.W.mg_of X Gm a26) T C_Lay H_are_whole H_is_within H_Lay_spots
  have H__law_is_num := ok__law_is_num (P := l.prog) (w := w) (base := base) (fun_mk (st := s__law_is_num) l27 c27 k27) (PySem.W.mg_of X Gm a27) T 
  have H__law_is_stretch := ok__law_is_stretch (P := l.prog) (w := w) (base := base) (fun_mk (st := s__law_is_stretch) l28 c28 k28) (PySem.W.mg_of X Gm a28) T H__law_is_num
  have H__law_is_lot := ok__law_is_lot (P := l.prog) (w := w) (base := base) (fun_mk (st := s__law_is_lot) l29 c29 k29) (PySem.W.mg_of X Gm a29) T H__law_is_stretch
  exact fn_law (fun_mk (st := s_law) l30 c30 k30) T C_Lay H__law_pen H__law_pick H__law_small H__law_long H__law_total K_Lay H__law_lot H__law_draw H__law_odd H__law_bent_lot H_is_lot H__law_is_lot
end Lw
set_option Elab.async false
set_option linter.all false
set_option maxRecDepth 10000
set_option maxHeartbeats 4000000
namespace Lw
open PySem PySem.Spec PyProof.Rows DL L2
local macro_rules
  | `(tactic| simp! only [$ls,*]) => `(tactic| simp only [↓ifK_t, ↓ifK_f, gA0, gA1, gA2, gA3, sA0, sA1, sA2, sA3, tA0, tA1, tA9, mA0, mA1, List.append_assoc, List.length_append, Nat.add_assoc, Nat.add_zero, ↓strK_s, ↓gdK_d, ↓gdK_l, ↓wE_inC, ↓wE_ixC, ↓wE_getD, ↓wE_var, ↓wE_c, ↓wA_nil, ↓wA_cons, ↓wE_bin, ↓wE_binF, ↓wE_cb, c1_d, c1F_d, c2_d, c1_l, oV_d, oVF_d, oV_ld, oV_dl, oVF_ld, vw_l, vwO_lst, vwO_dct, ↓wB_of, ↓wB_tru, ↓wB_and, ↓wB_or, ↓wB_not, ↓boolK_b, ↓wE_and, ↓wE_or, ↓wE_not, ↓wE_if, ↓wE_isN, isnE, ↓wE_is, ↓wE_is2, ↓bK_b, ↓wE_chain, ↓wE_call, ↓wE_lst, ↓wE_tup, ↓wE_tupT, ↓wE_lstL, ↓wE_dct0, ↓wE_dctL, ↓seqK_l, ↓seqK_t, ↓wE_listL, ↓intK_i, ↓wE_lrg, ↓wE_neg, ↓datK_d, ↓plK_l, ↓lstK_l, ↓dctK_l, ↓wE_app, ↓wE_pop, ↓wE_get, ↓wS_put, ↓wS_setIx, ↓wO_no, ↓wO_yes, ↓wE_sl, ↓wE_rev, vw_d, ↓wE_frzO, ↓wE_fld, ↓insK_i, ↓wS_fldP, ↓wE_make, ↓wE_meth, ↓wS_nil, ↓wS_never, ↓wS_set, ↓wS_ex, ↓wS_ret, ↓wS_retN, ↓wS_if, ↓wS_bk, ↓wS_ct, ↓wS_w, wipeO_nx, wipeO_bk, wipeO_ct, wipeO_rt, wipeE_nil, wipeE_cons, ↓zK_nx, ↓zK_rt, ↓wS_z, zSlots_nil, zSlots_cons, zTo_l, zTo_d, zTo_n, ↓asgK_s, ↓wS_asg, gNm_is, gTpE_d, gTpE_t, setAllE_nil, setAllE_cons, ↓augK_i, ↓wS_aug, ↓l2K_i, ↓l3K_i, ↓wS_par, ↓wS_par3, ↓retD_nx, ↓retD_d, ↓retD_o, ↓retD_l, ↓wS_for, ↓wI_any, ↓wI_rg1, ↓wI_rg2, ↓oK_some, ↓oK_none, ↓oK_ite, asD, Option.map_some, Option.bind_some, List.set_cons_zero, List.set_cons_succ, List.getElem?_cons_zero, List.getElem?_cons_succ, List.map_cons, List.map_nil, List.replicate, List.cons_append, List.nil_append, List.length_cons, List.length_nil, Nat.reduceSub, Nat.reduceAdd, Nat.reduceLeDiff, Nat.reduceLT, reduceIte, Bool.false_eq_true, Bool.not_true, Bool.not_false, decide_eq_true_eq, Bool.not_eq_true', decide_eq_false_iff_not, true_and, and_true, sizeLine_eq, addD, subD, truD, ltD, leD, gtD, geD, cmpI, ixD, lenD, isT_int, isT_bool, isT_str, isT_list, isT_tuple, isT2, ty_int, ty_bool, ty_str, ty_list, ty_tuple, $ls,*])

structure Pen where
  cells : List Int
  turn : Int
  left : Int
def kv (p : Pen) : List (Key × PyData) := [(.inr (Str.ofString "cells"), .list (p.cells.map PyData.int)), (.inr (Str.ofString "turn"), .int p.turn), (.inr (Str.ofString "left"), .int p.left)]
def penO (p : Pen) : MO := .dct (kv p)
theorem k_ct : (Str.ofString "cells" = Str.ofString "turn") = False := eq_false (by decide +kernel)
theorem k_cl : (Str.ofString "cells" = Str.ofString "left") = False := eq_false (by decide +kernel)
theorem k_tl : (Str.ofString "turn" = Str.ofString "left") = False := eq_false (by decide +kernel)
theorem k_tc : (Str.ofString "turn" = Str.ofString "cells") = False := eq_false (by decide +kernel)
theorem k_lc : (Str.ofString "left" = Str.ofString "cells") = False := eq_false (by decide +kernel)
theorem k_lt : (Str.ofString "left" = Str.ofString "turn") = False := eq_false (by decide +kernel)
theorem g_cells (p : Pen) : getP (kv p) (.inr (Str.ofString "cells")) = some (.list (p.cells.map PyData.int)) := by
  simp only [getP, kv, List.find?, Sum.inr.injEq, k_ct, k_cl, decide_true, Option.map]
theorem g_turn (p : Pen) : getP (kv p) (.inr (Str.ofString "turn")) = some (.int p.turn) := by
  simp only [getP, kv, List.find?, Sum.inr.injEq, k_ct, k_tl, k_tc, decide_true, decide_false, Option.map]
theorem g_left (p : Pen) : getP (kv p) (.inr (Str.ofString "left")) = some (.int p.left) := by
  simp only [getP, kv, List.find?, Sum.inr.injEq, k_tl, k_cl, decide_true, decide_false, Option.map]
theorem p_turn (p : Pen) (i : Int) : putP (kv p) (.inr (Str.ofString "turn")) (.int i) = kv { p with turn := i } := by
  simp [putP, kv, k_ct, k_lt, k_tc]
theorem p_left (p : Pen) (i : Int) : putP (kv p) (.inr (Str.ofString "left")) (.int i) = kv { p with left := i } := by
  simp [putP, kv, k_ct, k_lt, k_tc, k_tl, k_cl]
theorem kv_len (p : Pen) : (kv p).length = 3 := rfl
theorem dctK_pen {p : Pen} {Q : List (Key × PyData) → Prop} : dctK (some (penO p)) Q ↔ Q (kv p) := Iff.rfl
theorem key_str {z : Str} : keyOf (.str z) = some (.inr z) := rfl
structure okP (n : Nat) (p : Pen) : Prop where
  cells : p.cells.length ≤ 63
  t0 : 0 ≤ p.turn
  t1 : p.turn ≤ n
theorem okP.mono {n k : Nat} {p : Pen} (h : okP n p) (l : n ≤ k) : okP k p := ⟨h.cells, h.t0, by have := h.t1; omega⟩
theorem log2_small {i : Nat} (h : i < 2 ^ 200) : i.log2 < 200 := by
  by_cases h0 : i = 0
  · subst h0; decide
  · exact (Nat.log2_lt h0).mpr h
theorem mulI {i j : Int} (hi : i.natAbs < 2 ^ 200) (hj : j.natAbs < 2 ^ 200) : mulD' (.int i) (.int j) = some (.int (i * j)) := by
  have h1 := log2_small hi
  have h2 := log2_small hj
  simp [mulD', mulD]
  omega
theorem modI {i j : Int} (h : 0 < j) : modD (.int i) (.int j) = some (.int (i % j)) := by simp [modD, h]
theorem divI {i j : Int} (h : 0 < j) (h2 : j.natAbs < 2 ^ 200) : fdivD (.int i) (.int j) = some (.int (i / j)) := by
  have := log2_small h2
  simp [fdivD, h]
  omega
theorem powI {i : Int} {k : Nat} (h : i.natAbs < 2 ^ 64) (hk : k ≤ 1000000) : powD (.int i) (.int (k : Nat)) = some (.int (i ^ k)) := by
  simp only [powD]
  rw [if_pos ⟨by omega, by omega, h⟩]
  rfl
theorem atI_ok {α : Type} (l : List α) (i : Int) (h0 : 0 ≤ i) (h1 : i < l.length) : ∃ a ∈ l, L2.atI l i = some a := by
  refine ⟨l[i.toNat]'(by omega), List.getElem_mem _, ?_⟩
  have : ixN l.length i = some i.toNat := by unfold ixN; rw [if_pos h0, if_pos h1]
  simp only [L2.atI, this]
  exact List.getElem?_eq_getElem _
abbrev primes : List PyData := [.int 2147483647, .int 2147483629, .int 2147483587, .int 2147483579, .int 2147483563]
theorem prime_ok (i : Int) : ∃ q, L2.atI primes (i % 5) = some (.int q) ∧ 2147483563 ≤ q ∧ q ≤ 2147483647 := by
  obtain ⟨a, ha, h⟩ := atI_ok primes (i % 5) (Int.emod_nonneg _ (by decide)) (by have := Int.emod_lt_of_pos i (by decide : (0:Int) < 5); exact this)
  simp [primes] at ha
  rcases ha with rfl | rfl | rfl | rfl | rfl <;> exact ⟨_, h, by decide, by decide⟩
theorem absI (i : Int) : absD (.int i) = some (.int i.natAbs) := by
  simp only [absD]
  congr 2
  omega
theorem ne_nil_list (xs : List PyData) : neD (.list xs) (.list []) = some (.bool !xs.isEmpty) := by
  have h0 : SeqAt.shaped (.list []) = true := rfl
  cases xs with
  | nil => simp [neD, h0, PyData.eqv, PyData.eqvAll]
  | cons x xs =>
    by_cases h : SeqAt.shaped (.list (x :: xs)) = true
    · simp [neD, h, h0, PyData.eqv, PyData.eqvAll]
    · simp [neD, h, h0, vsNil]
theorem eq_nil_list (xs : List PyData) : eqD (.list xs) (.list []) = some (.bool xs.isEmpty) := by
  have h0 : SeqAt.shaped (.list []) = true := rfl
  cases xs with
  | nil => simp [eqD, h0, PyData.eqv, PyData.eqvAll]
  | cons x xs =>
    by_cases h : SeqAt.shaped (.list (x :: xs)) = true
    · simp [eqD, h, h0, PyData.eqv, PyData.eqvAll]
    · simp [eqD, h, h0, vsNil]
theorem sh_int (i : Int) : SeqAt.shaped (.int i) = true := rfl
theorem eqD_int (i j : Int) : eqD (.int i) (.int j) = some (.bool (decide (i = j))) := by
  simp [eqD, sh_int, PyData.eqv]
  rfl
theorem neD_int (i j : Int) : neD (.int i) (.int j) = some (.bool (!decide (i = j))) := by
  simp [neD, sh_int, PyData.eqv]
  rfl
theorem pw18 : powD (.int 10) (.int 18) = some (.int 1000000000000000000) := powI (k := 18) (by decide) (by decide)
theorem tk {o : MO} {R : Mem} : (o :: R).take (R.length + 1) = o :: R := by simp
/-- a pen's place and what stands behind it -/
abbrev PQ (n : Nat) (R : Mem) (P : EV → Prop) : EV → Mem → Prop := fun r m => ∃ q, m = penO q :: R ∧ okP n q ∧ P r
theorem sp_draw {n : Nat} {k : Int} {q : Pen} {R : Mem} (hq : okP n q) (hn : n ≤ 1000000000) (hk : 0 < k) (hk2 : k.natAbs < 2 ^ 100) : wF m__law_draw [.l 0, .d (.int k)] (penO q :: R) (PQ (n + 1) R fun r => ∃ i, r = .d (.int i) ∧ 0 ≤ i ∧ i < k) := by
  have t0 := hq.t0
  have t1 := hq.t1
  have B1 : (2 : Nat) ^ 100 = 1267650600228229401496703205376 := rfl
  have B2 : (2 : Nat) ^ 200 = 1606938044258990275541962092341162602522202993782792835301376 := rfl
  have hk3 : k.natAbs < 2 ^ 200 := by omega
  have ek : 0 ≤ k - 1 := by omega
  refine wF_fnD rfl ?_
  unfold b__law_draw
  simp only [List.map_cons, List.map_nil, List.replicate, Nat.reduceSub, List.cons_append, List.nil_append]
  refine seq_step fun K kn kr kb kc => ?_
  simp! only [dctK_pen, key_str, g_cells, g_left, g_turn]
  refine ifK_of (fun hl => ?_) fun hl => ?_
  · refine seq_step fun K2 kn2 kr2 kb2 kc2 => ?_
    simp! only [dctK_pen, key_str, g_cells, g_left, g_turn, modI hk]
    refine kn2 _ _ ?_
    clear kn2 kr2 kb2 kc2
    refine seq_step fun K2 kn2 kr2 kb2 kc2 => ?_
    simp! only [dctK_pen, key_str, g_cells, g_left, g_turn, divI hk hk3, kv_len, p_left]
    refine kn2 _ _ ?_
    clear kn2 kr2 kb2 kc2
    simp! only []
    refine kr _ _ ?_
    simp! only []
    exact ⟨{ q with left := q.left / k }, rfl, ⟨hq.cells, t0, by show q.turn ≤ _; omega⟩, _, rfl, Int.emod_nonneg _ (by omega), Int.emod_lt_of_pos _ hk⟩
  refine kn _ _ ?_
  clear kn kr kb kc
  refine seq_step fun K kn kr kb kc => ?_
  simp! only [dctK_pen, key_str, g_cells, g_left, g_turn]
  refine kn _ _ ?_
  clear kn kr kb kc
  refine seq_step fun K kn kr kb kc => ?_
  simp! only [dctK_pen, key_str, g_cells, g_left, g_turn, p_turn, kv_len]
  refine kn _ _ ?_
  clear kn kr kb kc
  obtain ⟨q', hq'⟩ : ∃ q' : Pen, q' = { q with turn := q.turn + 1 } := ⟨_, rfl⟩
  have hc' : q'.cells = q.cells := by rw [hq']
  have ok' : okP (n + 1) q' := by rw [hq']; exact ⟨hq.cells, by show 0 ≤ q.turn + 1; omega, by show q.turn + 1 ≤ _; omega⟩
  rw [show MO.dct (kv { q with turn := q.turn + 1 }) = penO q' by rw [hq']; rfl]
  refine seq_step fun K kn kr kb kc => ?_
  simp! only [dctK_pen, key_str, mulI (i := 31) (j := q.turn) (by omega) (by omega)]
  refine kn _ _ ?_
  clear kn kr kb kc
  -- the cell
  refine seq_step fun K kn kr kb kc => ?_
  suffices hcell : ∀ c : Int, K (.nx [some (.l 0), some (.d (.int k)), some (.d (.int q.turn)), some (.d (.int c)), none, none, none, none]) (penO q' :: R) by
    simp! only [dctK_pen, key_str, g_cells, hc']
    cases hcs : q.cells with
    | nil =>
      simp! only [List.map_nil, ne_nil_list, List.isEmpty_nil]
      exact hcell _
    | cons c0 cs =>
      have hlen : 0 < ((c0 :: cs).length : Int) := by simp
      obtain ⟨a, ha, hat⟩ := atI_ok ((c0 :: cs).map PyData.int) (q.turn % ((c0 :: cs).length : Int)) (Int.emod_nonneg _ (by omega)) (by rw [List.length_map]; exact Int.emod_lt_of_pos _ hlen)
      obtain ⟨c, _, rfl⟩ := List.mem_map.mp ha
      have e1 : neD (.list ((c0 :: cs).map PyData.int)) (.list []) = some (.bool true) := ne_nil_list _
      simp only [List.map_cons, List.length_map, List.length_cons] at e1 hat ⊢
      simp! only [e1, dctK_pen, key_str, g_cells, hc', hcs, List.map_cons, List.length_cons, List.length_map]
      rw [modI (by omega)]
      simp! only [hat]
      exact hcell _
  intro c
  refine kn _ _ ?_
  clear kn kr kb kc
  obtain ⟨a0, ha0⟩ : ∃ a0 : Int, a0 = (c.natAbs : Int) - 1000000000000000000 := ⟨_, rfl⟩
  refine seq_step fun K kn kr kb kc => ?_
  simp! only [dctK_pen, key_str, g_cells, hc', List.length_map, absI, pw18]
  have more : decide (q.turn < (q.cells.length : Int)) = true → decide (1000000000000000000 ≤ (c.natAbs : Int)) = true → (∀ (r : EV) (m1 : Mem), retD (penO q :: R).length (Out.rt r) m1 (PQ (n + 1) R fun r => ∃ i, r = EV.d (PyData.int i) ∧ 0 ≤ i ∧ i < k) → K (.rt r) m1) →
      wS (sSeq (sPut (eBin fdivD (eBin subD (eCB (c1 absD) (aCons (eVar 3) aNil)) (eBin powD (eC (.int 10)) (eC (.int 18)))) (eVar 1)) (eVar 0) (eC (.str "left"))) (sRet (eBin modD (eBin subD (eCB (c1 absD) (aCons (eVar 3) aNil)) (eBin powD (eC (.int 10)) (eC (.int 18)))) (eVar 1))))
        [some (.l 0), some (.d (.int k)), some (.d (.int q.turn)), some (.d (.int c)), none, none, none, none] (penO q' :: R) K := by
    intro h1 h2 kr
    refine seq_step fun K kn kr kb kc => ?_
    simp! only [dctK_pen, key_str, g_left, absI, pw18, divI hk hk3, kv_len, p_left]
    refine kn _ _ ?_
    clear kn kr kb kc
    simp! only [absI, pw18, modI hk]
    refine kr _ _ ?_
    simp! only []
    exact ⟨{ q' with left := _ }, rfl, ⟨ok'.cells, ok'.t0, ok'.t1⟩, _, rfl, Int.emod_nonneg _ (by omega), Int.emod_lt_of_pos _ hk⟩
  refine ifK_of (fun h1 => ifK_of (fun h2 => more h1 h2 kr) fun h2 => ?_) fun h1 => ?_
  all_goals
    refine kn _ _ ?_
    clear kn kr kb kc
    clear more
    obtain ⟨p1, hp1, p10, p11⟩ := prime_ok q.turn
    obtain ⟨p2, hp2, p20, p21⟩ := prime_ok (q.turn + 2)
    have c0 : 0 ≤ c % p1 := Int.emod_nonneg _ (by omega)
    have c1' : c % p1 < p1 := Int.emod_lt_of_pos _ (by omega)
    obtain ⟨d, hd⟩ : ∃ d, d = (c % p1 * 48271 + 39373 * q.turn * q.turn + 29) % p1 := ⟨_, rfl⟩
    have d0 : 0 ≤ d := by rw [hd]; exact Int.emod_nonneg _ (by omega)
    have d1 : d < p1 := by rw [hd]; exact Int.emod_lt_of_pos _ (by omega)
    obtain ⟨g, hg2⟩ : ∃ g, g = (d * (d + 69621)) % p2 := ⟨_, rfl⟩
    have g0 : 0 ≤ g := by rw [hg2]; exact Int.emod_nonneg _ (by omega)
    have g1 : g < p2 := by rw [hg2]; exact Int.emod_lt_of_pos _ (by omega)
    have tt : 39373 * q.turn ≤ 39373 * 1000000000 := by omega
    have m1 : mulD' (.int (c % p1)) (.int 48271) = some (.int (c % p1 * 48271)) := mulI (by omega) (by omega)
    have m2 : mulD' (.int 39373) (.int q.turn) = some (.int (39373 * q.turn)) := mulI (by omega) (by omega)
    have m3 : mulD' (.int (39373 * q.turn)) (.int q.turn) = some (.int (39373 * q.turn * q.turn)) := mulI (by omega) (by omega)
    have m4 : mulD' (.int d) (.int (d + 69621)) = some (.int (d * (d + 69621))) := mulI (by omega) (by omega)
    have m5 : mulD' (.int g) (.int g) = some (.int (g * g)) := mulI (by omega) (by omega)
    refine seq_step fun K kn kr kb kc => ?_
    simp! only []
    refine kn _ _ ?_
    clear kn kr kb kc
    refine seq_step fun K kn kr kb kc => ?_
    simp! only [modI (show (0 : Int) < 5 by decide), hp1]
    refine kn _ _ ?_
    clear kn kr kb kc
    refine seq_step fun K kn kr kb kc => ?_
    simp! only [modI (show 0 < p1 by omega), m1, m2, m3, ← hd]
    refine kn _ _ ?_
    clear kn kr kb kc
    refine seq_step fun K kn kr kb kc => ?_
    simp! only [modI (show (0 : Int) < 5 by decide), hp2, modI (show 0 < p2 by omega), m4, ← hg2]
    refine kn _ _ ?_
    clear kn kr kb kc
    simp! only [m5, modI (show (0 : Int) < 2147483549 by decide), divI (i := g * g % 2147483549) (j := 64) (by decide) (by decide), modI hk]
    exact ⟨q', rfl, ok', _, rfl, Int.emod_nonneg _ (by omega), Int.emod_lt_of_pos _ hk⟩
end Lw
set_option Elab.async false
set_option linter.all false
set_option maxRecDepth 100000
set_option maxHeartbeats 4000000
namespace Lw
open PySem PySem.Spec PyProof.Rows DL L2
local macro_rules
  | `(tactic| simp! only [$ls,*]) => `(tactic| simp only [↓ifK_t, ↓ifK_f, gA0, gA1, gA2, gA3, sA0, sA1, sA2, sA3, tA0, tA1, tA9, mA0, mA1, List.append_assoc, List.length_append, Nat.add_assoc, Nat.add_zero, ↓strK_s, ↓gdK_d, ↓gdK_l, ↓wE_inC, ↓wE_ixC, ↓wE_getD, ↓wE_var, ↓wE_c, ↓wA_nil, ↓wA_cons, ↓wE_bin, ↓wE_binF, ↓wE_cb, c1_d, c1F_d, c2_d, c1_l, oV_d, oVF_d, oV_ld, oV_dl, oVF_ld, vw_l, vwO_lst, vwO_dct, ↓wB_of, ↓wB_tru, ↓wB_and, ↓wB_or, ↓wB_not, ↓boolK_b, ↓wE_and, ↓wE_or, ↓wE_not, ↓wE_if, ↓wE_isN, isnE, ↓wE_is, ↓wE_is2, ↓bK_b, ↓wE_chain, ↓wE_call, ↓wE_lst, ↓wE_tup, ↓wE_tupT, ↓wE_lstL, ↓wE_dct0, ↓wE_dctL, ↓seqK_l, ↓seqK_t, ↓wE_listL, ↓intK_i, ↓wE_lrg, ↓wE_neg, ↓datK_d, ↓plK_l, ↓lstK_l, ↓dctK_l, ↓wE_app, ↓wE_pop, ↓wE_get, ↓wS_put, ↓wS_setIx, ↓wO_no, ↓wO_yes, ↓wE_sl, ↓wE_rev, vw_d, ↓wE_frzO, ↓wE_fld, ↓insK_i, ↓wS_fldP, ↓wE_make, ↓wE_meth, ↓wS_nil, ↓wS_never, ↓wS_set, ↓wS_ex, ↓wS_ret, ↓wS_retN, ↓wS_if, ↓wS_bk, ↓wS_ct, ↓wS_w, wipeO_nx, wipeO_bk, wipeO_ct, wipeO_rt, wipeE_nil, wipeE_cons, ↓zK_nx, ↓zK_rt, ↓wS_z, zSlots_nil, zSlots_cons, zTo_l, zTo_d, zTo_n, ↓asgK_s, ↓wS_asg, gNm_is, gTpE_d, gTpE_t, setAllE_nil, setAllE_cons, ↓augK_i, ↓wS_aug, ↓l2K_i, ↓l3K_i, ↓wS_par, ↓wS_par3, ↓retD_nx, ↓retD_d, ↓retD_o, ↓retD_l, ↓wS_for, ↓wI_any, ↓wI_rg1, ↓wI_rg2, ↓oK_some, ↓oK_none, ↓oK_ite, asD, Option.map_some, Option.bind_some, List.set_cons_zero, List.set_cons_succ, List.getElem?_cons_zero, List.getElem?_cons_succ, List.map_cons, List.map_nil, List.replicate, List.cons_append, List.nil_append, List.length_cons, List.length_nil, Nat.reduceSub, Nat.reduceAdd, Nat.reduceLeDiff, Nat.reduceLT, reduceIte, Bool.false_eq_true, Bool.not_true, Bool.not_false, decide_eq_true_eq, Bool.not_eq_true', decide_eq_false_iff_not, true_and, and_true, sizeLine_eq, addD, subD, truD, ltD, leD, gtD, geD, cmpI, ixD, lenD, isT_int, isT_bool, isT_str, isT_list, isT_tuple, isT2, ty_int, ty_bool, ty_str, ty_list, ty_tuple, $ls,*])

/-- a walk that tells one thing and changes nothing else -/
theorem wF_det {F : MF} {rs : List EV} {m m1 : Mem} {x : EV} {Q : EV → Mem → Prop} (h : wF F rs m fun r m' => r = x ∧ m' = m1) : wF F rs m Q ↔ Q x m1 := by
  obtain ⟨r, m', e, rfl, rfl⟩ := wF_is h
  exact wF_eq e
def wholeB : PyData → Bool
  | .int _ => true
  | _ => false
def numB (lo : Int) : PyData → Bool
  | .int i => decide (lo ≤ i)
  | _ => false
def betB (lo hi : Int) : PyData → Bool
  | .int i => decide (lo ≤ i) && decide (i ≤ hi)
  | _ => false
theorem sp_is_whole {x : PyData} {m : Mem} {Q : EV → Mem → Prop} : wF m_is_whole [.d x] m Q ↔ Q (.d (.bool (wholeB x))) m := by
  refine wF_det ?_
  refine wF_fnD (b := b_is_whole) (by simp only [List.length_cons, List.length_nil]) ?_
  unfold b_is_whole
  simp only [List.map_cons, List.map_nil, List.replicate, Nat.reduceSub, List.cons_append, List.nil_append]
  simp! only []
  cases x <;> simp! only [wholeB] <;> simp
theorem sp_is_from_to {x : PyData} {lo hi : Int} {m : Mem} {Q : EV → Mem → Prop} : wF m_is_from_to [.d x, .d (.int lo), .d (.int hi)] m Q ↔ Q (.d (.bool (betB lo hi x))) m := by
  refine wF_det ?_
  refine wF_fnD (b := b_is_from_to) (by simp only [List.length_cons, List.length_nil]) ?_
  unfold b_is_from_to
  simp only [List.map_cons, List.map_nil, List.replicate, Nat.reduceSub, List.cons_append, List.nil_append]
  simp! only [↓sp_is_whole]
  cases x <;> simp! only [wholeB, betB, true_and]
  rename_i i
  by_cases h : lo ≤ i <;> simp! only [h, decide_true, decide_false, Bool.true_and, Bool.false_and] <;> trivial
def allW (k : Nat) : PyData → Bool
  | .tuple ds => decide (ds.length = k) && ds.all wholeB
  | _ => false
theorem asB_map {α : Type} (f : α → Bool) : ∀ xs : List α, asB (xs.map fun x => PyData.bool (f x)) = some (xs.map f)
  | [] => rfl
  | x :: xs => by
    have ih := asB_map f xs
    simp only [List.map_cons, asB, ih]
    rfl
theorem allD_map {α : Type} (f : α → Bool) (xs : List α) : allD (.list (xs.map fun x => PyData.bool (f x))) = some (.bool (xs.all f)) := by
  simp only [allD, asB_map, Option.map_some, List.all_map]
  rfl
theorem sp_are_whole {x : PyData} {k : Int} {n : Nat} {m : Mem} {Q : EV → Mem → Prop} (hk : k = n) (hn : n ≤ 1000) (hx : ∀ ds, x = .tuple ds → ds.length ≤ 16777216) : wF m_are_whole [.d x, .d (.int k)] m Q ↔ Q (.d (.bool (allW n x))) m := by
  refine wF_det ?_
  refine wF_fnD (b := b_are_whole) (by simp only [List.length_cons, List.length_nil]) ?_
  unfold b_are_whole
  simp only [List.map_cons, List.map_nil, List.replicate, Nat.reduceSub, List.cons_append, List.nil_append]
  simp! only []
  cases x with
  | tuple ds =>
    have hl := hx ds rfl
    simp! only [if_pos hl, eqD_int]
    by_cases e : (ds.length : Int) = k
    · have e2 : ds.length = n := by omega
      simp! only [e, decide_true]
      refine wE_map ds EV.d (fun x => .bool (wholeB x)) (by rw [sizeLine_eq]; exact hl) ?_ ?_ ?_
      · simp! only []
        exact fun _ => trivial
      · intro a ha M hM
        simp! only [↓sp_is_whole]
      · simp! only [allD_map, allW, e2, decide_true, Bool.true_and]
    · have e2 : ¬ ds.length = n := by omega
      simp! only [e, decide_false, allW, e2, Bool.false_and]
  | _ => simp! only [allW] <;> trivial
def inB (f k t : Int) : Bool := decide (1 ≤ k) && decide (0 ≤ f) && decide (f + k ≤ t)
theorem sp_is_within {f k t : Int} {m : Mem} {Q : EV → Mem → Prop} : wF m_is_within [.d (.int f), .d (.int k), .d (.int t)] m Q ↔ Q (.d (.bool (inB f k t))) m := by
  refine wF_det ?_
  refine wF_fnD (b := b_is_within) (by simp only [List.length_cons, List.length_nil]) ?_
  unfold b_is_within
  simp only [List.map_cons, List.map_nil, List.replicate, Nat.reduceSub, List.cons_append, List.nil_append]
  simp! only [inB]
  by_cases h1 : 1 ≤ k <;> by_cases h2 : 0 ≤ f <;> simp! only [h1, h2, decide_true, decide_false, Bool.true_and, Bool.false_and] <;> trivial
theorem sp_law_is_num {x : PyData} {lo : Int} {m : Mem} {Q : EV → Mem → Prop} : wF m__law_is_num [.d x, .d (.int lo)] m Q ↔ Q (.d (.bool (numB lo x))) m := by
  refine wF_det ?_
  refine wF_fnD (b := b__law_is_num) (by simp only [List.length_cons, List.length_nil]) ?_
  unfold b__law_is_num
  simp only [List.map_cons, List.map_nil, List.replicate, Nat.reduceSub, List.cons_append, List.nil_append]
  simp! only []
  cases x <;> simp! only [numB] <;> trivial
def intOf : PyData → Int
  | .int i => i
  | _ => 0
theorem sp_law_is_stretch {t : Int} {x y : PyData} {m : Mem} {Q : EV → Mem → Prop} : wF m__law_is_stretch [.d (.int t), .d x, .d y] m Q ↔ Q (.d (.bool (wholeB x && wholeB y && inB (intOf x) (intOf y) t))) m := by
  refine wF_det ?_
  refine wF_fnD (b := b__law_is_stretch) (by simp only [List.length_cons, List.length_nil]) ?_
  unfold b__law_is_stretch
  simp only [List.map_cons, List.map_nil, List.replicate, Nat.reduceSub, List.cons_append, List.nil_append]
  simp! only [↓sp_law_is_num]
  cases x <;> simp! only [numB, wholeB, intOf, inB, Bool.false_and]
  try any_goals trivial
  rename_i i
  by_cases h1 : 0 ≤ i <;> simp! only [h1, decide_true, decide_false, Bool.true_and, Bool.false_and, Bool.and_false]
  · cases y <;> simp! only [numB, wholeB, intOf, inB, Bool.false_and, Bool.true_and]
    try any_goals trivial
    rename_i j
    by_cases h2 : 1 ≤ j <;> simp! only [h2, decide_true, decide_false, Bool.true_and, Bool.false_and, Bool.and_false] <;> trivial
end Lw
set_option Elab.async false
set_option linter.all false
set_option maxRecDepth 100000
set_option maxHeartbeats 4000000
namespace Lw
open PySem PySem.Spec PyProof.Rows DL L2
local macro_rules
  | `(tactic| simp! only [$ls,*]) => `(tactic| simp only [↓ifK_t, ↓ifK_f, gA0, gA1, gA2, gA3, sA0, sA1, sA2, sA3, tA0, tA1, tA9, mA0, mA1, List.append_assoc, List.length_append, Nat.add_assoc, Nat.add_zero, ↓strK_s, ↓gdK_d, ↓gdK_l, ↓wE_inC, ↓wE_ixC, ↓wE_getD, ↓wE_var, ↓wE_c, ↓wA_nil, ↓wA_cons, ↓wE_bin, ↓wE_binF, ↓wE_cb, c1_d, c1F_d, c2_d, c1_l, oV_d, oVF_d, oV_ld, oV_dl, oVF_ld, vw_l, vwO_lst, vwO_dct, ↓wB_of, ↓wB_tru, ↓wB_and, ↓wB_or, ↓wB_not, ↓boolK_b, ↓wE_and, ↓wE_or, ↓wE_not, ↓wE_if, ↓wE_isN, isnE, ↓wE_is, ↓wE_is2, ↓bK_b, ↓wE_chain, ↓wE_call, ↓wE_lst, ↓wE_tup, ↓wE_tupT, ↓wE_lstL, ↓wE_dct0, ↓wE_dctL, ↓seqK_l, ↓seqK_t, ↓wE_listL, ↓intK_i, ↓wE_lrg, ↓wE_neg, ↓datK_d, ↓plK_l, ↓lstK_l, ↓dctK_l, ↓wE_app, ↓wE_pop, ↓wE_get, ↓wS_put, ↓wS_setIx, ↓wO_no, ↓wO_yes, ↓wE_sl, ↓wE_rev, vw_d, ↓wE_frzO, ↓wE_fld, ↓insK_i, ↓wS_fldP, ↓wE_make, ↓wE_meth, ↓wS_nil, ↓wS_never, ↓wS_set, ↓wS_ex, ↓wS_ret, ↓wS_retN, ↓wS_if, ↓wS_bk, ↓wS_ct, ↓wS_w, wipeO_nx, wipeO_bk, wipeO_ct, wipeO_rt, wipeE_nil, wipeE_cons, ↓zK_nx, ↓zK_rt, ↓wS_z, zSlots_nil, zSlots_cons, zTo_l, zTo_d, zTo_n, ↓asgK_s, ↓wS_asg, gNm_is, gTpE_d, gTpE_t, setAllE_nil, setAllE_cons, ↓augK_i, ↓wS_aug, ↓l2K_i, ↓l3K_i, ↓wS_par, ↓wS_par3, ↓retD_nx, ↓retD_d, ↓retD_o, ↓retD_l, ↓wS_for, ↓wI_any, ↓wI_rg1, ↓wI_rg2, ↓oK_some, ↓oK_none, ↓oK_ite, asD, Option.map_some, Option.bind_some, List.set_cons_zero, List.set_cons_succ, List.getElem?_cons_zero, List.getElem?_cons_succ, List.map_cons, List.map_nil, List.replicate, List.cons_append, List.nil_append, List.length_cons, List.length_nil, Nat.reduceSub, Nat.reduceAdd, Nat.reduceLeDiff, Nat.reduceLT, reduceIte, Bool.false_eq_true, Bool.not_true, Bool.not_false, decide_eq_true_eq, Bool.not_eq_true', decide_eq_false_iff_not, true_and, and_true, sizeLine_eq, addD, subD, truD, ltD, leD, gtD, geD, cmpI, ixD, lenD, isT_int, isT_bool, isT_str, isT_list, isT_tuple, isT2, ty_int, ty_bool, ty_str, ty_list, ty_tuple, $ls,*])

theorem sp_pick {n : Nat} {xs : List PyData} {q : Pen} {R : Mem} (hq : okP n q) (hn : n ≤ 1000000000) (hx : xs ≠ []) (hl : xs.length ≤ 16777216) : wF m__law_pick [.l 0, .d (.list xs)] (penO q :: R) (PQ (n + 1) R fun r => ∃ x ∈ xs, r = .d x) := by
  have h0 : 0 < xs.length := List.length_pos_iff.mpr hx
  refine wF_fnD (b := b__law_pick) (by simp only [List.length_cons, List.length_nil]) ?_
  unfold b__law_pick
  simp only [List.map_cons, List.map_nil, List.replicate, Nat.reduceSub, List.cons_append, List.nil_append]
  simp! only []
  refine wF_imp (sp_draw hq hn (by omega) (by omega)) ?_
  rintro _ _ ⟨q1, rfl, hq1, i, rfl, i0, i1⟩
  obtain ⟨a, ha, hat⟩ := atI_ok xs i i0 i1
  simp! only [hat]
  exact ⟨q1, rfl, hq1, a, ha, rfl⟩
/-- whole numbers from lo up to below hi, in the place of loops -/
theorem rgL_cons {lo : Int} {n : Nat} : rgL lo (n + 1) = .d (.int lo) :: rgL (lo + 1) n := by
  unfold rgL
  rw [List.range_succ_eq_map, List.map_cons, List.map_map]
  congr 1
  · simp
  · apply List.map_congr_left
    intro i _
    simp only [Function.comp]
    congr 2
    push_cast
    omega
theorem rgL_zero {lo : Int} : rgL lo 0 = [] := rfl
/-- a loop over range: what holds when the turn of i begins -/
theorem for_rg {b : MS} {QS : Out → Mem → Prop} {t : MG} (lo : Int) (J : Int → Env' → Mem → Prop) (n : Nat) (step : ∀ i e m, lo ≤ i → i < lo + n → J i e m → oK (t (.d (.int i)) e m) fun e1 => wS b e1 m fun o m2 => match o with
    | .nx e2 => J (i + 1) e2 m2
    | .ct e2 => J (i + 1) e2 m2
    | .bk e2 => QS (.nx e2) m2
    | .rt r => QS (.rt r) m2) (done : ∀ e m, J (lo + n) e m → QS (.nx e) m) (e : Env') (m : Mem) (h : J lo e m) : wS (forL t b noC (rgL lo n)) e m QS := by
  refine for_by (fun xs e m => ∃ k : Nat, k ≤ n ∧ xs = rgL (lo + (n - k : Nat)) k ∧ J (lo + (n - k : Nat)) e m) ?_ ?_ _ e m ⟨n, Nat.le_refl _, by simp, by simpa using h⟩
  · rintro x xs e m ⟨k, hk, hx, hj⟩
    refine ⟨trivial, ?_⟩
    cases k with
    | zero => cases hx
    | succ k =>
      rw [rgL_cons] at hx
      cases hx
      refine oK_imp (step _ e m (by omega) (by omega) hj) fun e1 g => wS_imp g fun o m2 g => ?_
      have e3 : lo + ((n - (k + 1) : Nat) : Int) + 1 = lo + ((n - k : Nat) : Int) := by omega
      cases o with
      | nx e2 => exact ⟨k, by omega, by rw [e3], by rw [← e3]; exact g⟩
      | ct e2 => exact ⟨k, by omega, by rw [e3], by rw [← e3]; exact g⟩
      | bk e2 => exact g
      | rt r => exact g
  · rintro e m ⟨k, hk, hx, hj⟩
    cases k with
    | zero => exact ⟨trivial, done e m (by simpa using hj)⟩
    | succ k => rw [rgL_cons] at hx; cases hx
/-- a loop over things: what holds when so many are done -/
theorem for_ls {α : Type} {b : MS} {QS : Out → Mem → Prop} {t : MG} {C : Mem → Prop} (hC : ∀ m, C m) (as : List α) (enc : α → EV) (J : List α → List α → Env' → Mem → Prop) (step : ∀ pre a post e m, as = pre ++ a :: post → J pre (a :: post) e m → oK (t (enc a) e m) fun e1 => wS b e1 m fun o m2 => match o with
    | .nx e2 => J (pre ++ [a]) post e2 m2
    | .ct e2 => J (pre ++ [a]) post e2 m2
    | .bk e2 => QS (.nx e2) m2
    | .rt r => QS (.rt r) m2) (done : ∀ e m, J as [] e m → QS (.nx e) m) (e : Env') (m : Mem) (h : J [] as e m) : wS (forL t b C (as.map enc)) e m QS := by
  refine for_by (fun xs e m => ∃ pre post, as = pre ++ post ∧ xs = post.map enc ∧ J pre post e m) ?_ ?_ _ e m ⟨[], as, rfl, rfl, h⟩
  · rintro x xs e m ⟨pre, post, ha, hx, hj⟩
    refine ⟨hC m, ?_⟩
    cases post with
    | nil => cases hx
    | cons a post =>
      rw [List.map_cons] at hx
      cases hx
      refine oK_imp (step _ _ _ e m ha hj) fun e1 g => wS_imp g fun o m2 g => ?_
      cases o with
      | nx e2 => exact ⟨_, _, by rw [ha]; simp, rfl, g⟩
      | ct e2 => exact ⟨_, _, by rw [ha]; simp, rfl, g⟩
      | bk e2 => exact g
      | rt r => exact g
  · rintro e m ⟨pre, post, ha, hx, hj⟩
    cases post with
    | nil =>
      rw [List.append_nil] at ha
      subst ha
      exact ⟨hC m, done e m hj⟩
    | cons a post => cases hx
theorem sp_great {n f : Nat} {k : Int} {q : Pen} {R : Mem} (hq : okP n q) (hn : n + f ≤ 1000000000) (hk : k = (f : Int)) (hf : f ≤ 40) : wF m__law_great [.l 0, .d (.int k)] (penO q :: R) (PQ (n + f) R fun r => ∃ i : Int, r = .d (.int i) ∧ 0 ≤ i ∧ i < 10 ^ f) := by
  refine wF_fnD (b := b__law_great) (by simp only [List.length_cons, List.length_nil]) ?_
  unfold b__law_great
  simp only [List.map_cons, List.map_nil, List.replicate, Nat.reduceSub, List.cons_append, List.nil_append]
  refine seq_step fun K kn kr kb kc => ?_
  simp! only []
  refine kn _ _ ?_
  clear kn kr kb kc
  refine seq_step fun K kn kr kb kc => ?_
  simp! only []
  refine ⟨by omega, ?_⟩
  refine for_rg 0 (fun i e m => ∃ (q' : Pen) (g : Int), okP (n + i.toNat) q' ∧ 0 ≤ g ∧ g < 10 ^ i.toNat ∧ m = penO q' :: R ∧ e = [some (.l 0), some (.d (.int k)), some (.d (.int g)), none]) _ ?_ ?_ _ _ ⟨q, 0, by simpa using hq, Int.le_refl _, by simp, rfl, rfl⟩
  · rintro i e m i0 i1 ⟨q', g, hq', g0, g1, rfl, rfl⟩
    have h40 : (10 : Int) ^ i.toNat ≤ 10 ^ 40 := by
      have := Nat.pow_le_pow_right (n := 10) (by decide) (show i.toNat ≤ 40 by omega)
      exact_mod_cast this
    have E40 : (10 : Int) ^ 40 = 10000000000000000000000000000000000000000 := rfl
    have B2 : (2 : Nat) ^ 200 = 1606938044258990275541962092341162602522202993782792835301376 := rfl
    simp! only [mulI (i := 10) (j := g) (by decide) (by omega)]
    refine wF_imp (sp_draw hq' (by omega) (by decide) (by decide)) ?_
    rintro _ _ ⟨q1, rfl, hq1, d, rfl, d0, d1⟩
    simp! only []
    have e1 : (i + 1).toNat = i.toNat + 1 := by omega
    refine ⟨q1, _, hq1.mono (by omega), by omega, ?_, rfl, rfl⟩
    rw [e1, Int.pow_succ]
    omega
  · rintro e m ⟨q', g, hq', g0, g1, rfl, rfl⟩
    refine kn _ _ ?_
    clear kn kr kb kc
    simp! only []
    have ek : ((0 : Int) + (k.toNat : Int)).toNat = f := by omega
    rw [ek] at hq' g1
    exact ⟨q', rfl, hq', g, rfl, g0, g1⟩
theorem min2I (i j : Int) : min2D (.int i) (.int j) = some (.int (min i j)) := by
  simp only [min2D]
  congr 2
  omega
theorem max2I (i j : Int) : max2D (.int i) (.int j) = some (.int (max i j)) := by
  simp only [max2D]
  congr 2
  omega
theorem strI_int {i : Int} (h0 : 0 ≤ i) {k : Nat} (hk : 1 ≤ k) (hk2 : k ≤ 60) (h : i < 10 ^ k) : ∃ z : Str, strI (.int i) = some (.str z) ∧ z.length ≤ k := by
  refine ⟨Str.ofString (toString i), ?_, toString_length_le h0 hk h⟩
  have h1 : i.natAbs.log2 < 1920 := by
    have e : (10 : Int) ^ k ≤ 10 ^ 60 := by
      have := Nat.pow_le_pow_right (n := 10) (by decide) hk2
      exact_mod_cast this
    have E : (10 : Int) ^ 60 < 2 ^ 200 := by decide
    have B2 : (2 : Nat) ^ 200 = 1606938044258990275541962092341162602522202993782792835301376 := rfl
    have B3 : (2 : Int) ^ 200 = 1606938044258990275541962092341162602522202993782792835301376 := rfl
    have := log2_small (i := i.natAbs) (by omega)
    omega
  simp only [strI, if_pos h1]
theorem sp_below {n : Nat} {k : Int} {q : Pen} {R : Mem} (hq : okP n q) (hn : n + 50 ≤ 1000000000) (hk : 0 < k) (hk2 : k < 10 ^ 40) : wF m__law_below [.l 0, .d (.int k)] (penO q :: R) (PQ (n + 42) R fun r => ∃ i : Int, r = .d (.int i) ∧ 0 ≤ i ∧ i < k) := by
  have E40 : (10 : Int) ^ 40 = 10000000000000000000000000000000000000000 := rfl
  refine wF_fnD (b := b__law_below) (by simp only [List.length_cons, List.length_nil]) ?_
  unfold b__law_below
  simp only [List.map_cons, List.map_nil, List.replicate, Nat.reduceSub, List.cons_append, List.nil_append]
  refine seq_step fun K kn kr kb kc => ?_
  simp! only []
  refine wF_imp (sp_draw hq (by omega) (by decide) (by decide)) ?_
  rintro _ _ ⟨q1, rfl, hq1, c, rfl, c0, c1'⟩
  refine kn _ _ ?_
  clear kn kr kb kc
  refine seq_step fun K kn kr kb kc => ?_
  simp! only [eqD_int]
  refine ifK_of (fun hc => ?_) fun hc => ?_
  · refine wF_imp (sp_draw hq1 (by omega) (by decide) (by decide)) ?_
    rintro _ _ ⟨q2, rfl, hq2, d, rfl, d0, d1⟩
    simp! only [min2I]
    refine kr _ _ ?_
    simp! only []
    exact ⟨q2, rfl, hq2.mono (by omega), _, rfl, by omega, by omega⟩
  refine kn _ _ ?_
  clear kn kr kb kc
  refine seq_step fun K kn kr kb kc => ?_
  simp! only [eqD_int]
  refine ifK_of (fun hc => ?_) fun hc => ?_
  · refine wF_imp (sp_draw hq1 (by omega) (by decide) (by decide)) ?_
    rintro _ _ ⟨q2, rfl, hq2, d, rfl, d0, d1⟩
    simp! only [max2I]
    refine kr _ _ ?_
    simp! only []
    exact ⟨q2, rfl, hq2.mono (by omega), _, rfl, by omega, by omega⟩
  refine kn _ _ ?_
  clear kn kr kb kc
  obtain ⟨z, hz, hzl⟩ := strI_int (i := k) (by omega) (k := 40) (by decide) (by decide) hk2
  have hz2 : z.length ≤ 16777216 := by omega
  simp! only [hz, if_pos hz2]
  have key := sp_great (n := n + 1) (f := z.length) (k := (z.length : Int)) (q := q1) (R := R) hq1 (by omega) rfl hzl
  refine wF_imp key ?_
  rintro _ _ ⟨q2, rfl, hq2, d, rfl, d0, d1⟩
  simp! only [modI hk]
  exact ⟨q2, rfl, hq2.mono (by omega), _, rfl, Int.emod_nonneg _ (by omega), Int.emod_lt_of_pos _ hk⟩
theorem eraseIdx_perm {α : Type} : ∀ (l : List α) (i : Nat) (a : α), l[i]? = some a → (a :: l.eraseIdx i).Perm l
  | [], i, a, h => by simp at h
  | x :: l, 0, a, h => by simp at h; subst h; exact List.Perm.refl _
  | x :: l, i + 1, a, h => by
    have := eraseIdx_perm l i a (by simpa using h)
    exact (List.Perm.swap x a _).trans (this.cons x)
theorem sp_turned_about {n : Nat} {xs : List PyData} {q : Pen} {R : Mem} (hq : okP n q) (hl : xs.length ≤ 1000) (hn : n + xs.length ≤ 1000000000) : wF m__law_turned_about [.l 0, .d (.list xs)] (penO q :: R) (PQ (n + xs.length) R fun r => ∃ ys : List PyData, r = .d (.list ys) ∧ ys.Perm xs) := by
  refine wF_fnD (b := b__law_turned_about) (by simp only [List.length_cons, List.length_nil]) ?_
  unfold b__law_turned_about
  simp only [List.map_cons, List.map_nil, List.replicate, Nat.reduceSub, List.cons_append, List.nil_append]
  refine seq_step fun K kn kr kb kc => ?_
  simp! only []
  refine kn _ _ ?_
  clear kn kr kb kc
  rw [wS_ret]
  refine wE_compY (rgL 0 xs.length) ?_ (fun rest acc m => ∃ (q' : Pen) (left : List PyData), okP (n + acc.length) q' ∧ rest.length = left.length ∧ (acc ++ left).Perm xs ∧ m = penO q' :: (R ++ [.lst left])) ?_ ?_ ?_
  · simp! only [Int.toNat_natCast]
    exact ⟨by omega, fun _ => trivial⟩
  · exact ⟨q, xs, by simpa using hq, by simp [rgL], by simp, rfl⟩
  · rintro x rest acc m' ⟨q', left, hq', hr, hp, rfl⟩ hml
    have hll := hp.length_eq
    simp only [List.length_append, List.length_cons] at hll hr
    simp! only []
    refine wF_imp (sp_draw hq' (k := (left.length : Int)) (by omega) (by omega) (by omega)) ?_
    rintro _ _ ⟨q2, rfl, hq2, d, rfl, d0, d1⟩
    have hlt : d.toNat < left.length := by omega
    have hget : left[d.toNat]? = some left[d.toNat] := List.getElem?_eq_getElem hlt
    simp! only [hget]
    refine ⟨⟨d0, by omega⟩, penO q2 :: (R ++ [.lst (left.eraseIdx d.toNat)]), by simp, by simp, by omega, q2, left.eraseIdx d.toNat, hq2.mono (by omega), ?_, ?_, rfl⟩
    · rw [List.length_eraseIdx, if_pos hlt]; omega
    · refine List.Perm.trans ?_ hp
      exact (eraseIdx_perm left _ _ hget).append_left acc
  · rintro acc m' ⟨q', left, hq', hr, hp, rfl⟩ _
    have hln : left = [] := List.eq_nil_of_length_eq_zero hr.symm
    subst hln
    rw [List.append_nil] at hp
    simp! only []
    exact ⟨q', rfl, hq'.mono (by rw [hp.length_eq]; exact Nat.le_refl _), acc, rfl, hp⟩
end Lw
set_option Elab.async false
set_option linter.all false
set_option maxRecDepth 100000
set_option maxHeartbeats 4000000
namespace Lw
open PySem PySem.Spec PyProof.Rows DL L2
local macro_rules
  | `(tactic| simp! only [$ls,*]) => `(tactic| simp only [↓ifK_t, ↓ifK_f, gA0, gA1, gA2, gA3, sA0, sA1, sA2, sA3, tA0, tA1, tA9, mA0, mA1, List.append_assoc, List.length_append, Nat.add_assoc, Nat.add_zero, ↓strK_s, ↓gdK_d, ↓gdK_l, ↓wE_inC, ↓wE_ixC, ↓wE_getD, ↓wE_var, ↓wE_c, ↓wA_nil, ↓wA_cons, ↓wE_bin, ↓wE_binF, ↓wE_cb, c1_d, c1F_d, c2_d, c1_l, oV_d, oVF_d, oV_ld, oV_dl, oVF_ld, vw_l, vwO_lst, vwO_dct, ↓wB_of, ↓wB_tru, ↓wB_and, ↓wB_or, ↓wB_not, ↓boolK_b, ↓wE_and, ↓wE_or, ↓wE_not, ↓wE_if, ↓wE_isN, isnE, ↓wE_is, ↓wE_is2, ↓bK_b, ↓wE_chain, ↓wE_call, ↓wE_lst, ↓wE_tup, ↓wE_tupT, ↓wE_lstL, ↓wE_dct0, ↓wE_dctL, ↓seqK_l, ↓seqK_t, ↓wE_listL, ↓intK_i, ↓wE_lrg, ↓wE_neg, ↓datK_d, ↓plK_l, ↓lstK_l, ↓dctK_l, ↓wE_app, ↓wE_pop, ↓wE_get, ↓wS_put, ↓wS_setIx, ↓wO_no, ↓wO_yes, ↓wE_sl, ↓wE_rev, vw_d, ↓wE_frzO, ↓wE_fld, ↓insK_i, ↓wS_fldP, ↓wE_make, ↓wE_meth, ↓wS_nil, ↓wS_never, ↓wS_set, ↓wS_ex, ↓wS_ret, ↓wS_retN, ↓wS_if, ↓wS_bk, ↓wS_ct, ↓wS_w, wipeO_nx, wipeO_bk, wipeO_ct, wipeO_rt, wipeE_nil, wipeE_cons, ↓zK_nx, ↓zK_rt, ↓wS_z, zSlots_nil, zSlots_cons, zTo_l, zTo_d, zTo_n, ↓asgK_s, ↓wS_asg, gNm_is, gTpE_d, gTpE_t, setAllE_nil, setAllE_cons, ↓augK_i, ↓wS_aug, ↓l2K_i, ↓l3K_i, ↓wS_par, ↓wS_par3, ↓retD_nx, ↓retD_d, ↓retD_o, ↓retD_l, ↓wS_for, ↓wI_any, ↓wI_rg1, ↓wI_rg2, ↓oK_some, ↓oK_none, ↓oK_ite, asD, Option.map_some, Option.bind_some, List.set_cons_zero, List.set_cons_succ, List.getElem?_cons_zero, List.getElem?_cons_succ, List.map_cons, List.map_nil, List.replicate, List.cons_append, List.nil_append, List.length_cons, List.length_nil, Nat.reduceSub, Nat.reduceAdd, Nat.reduceLeDiff, Nat.reduceLT, reduceIte, Bool.false_eq_true, Bool.not_true, Bool.not_false, decide_eq_true_eq, Bool.not_eq_true', decide_eq_false_iff_not, true_and, and_true, sizeLine_eq, addD, subD, truD, ltD, leD, gtD, geD, cmpI, ixD, lenD, isT_int, isT_bool, isT_str, isT_list, isT_tuple, isT2, ty_int, ty_bool, ty_str, ty_list, ty_tuple, $ls,*])

theorem at_0 {a : PyData} {l : List PyData} : L2.atI (a :: l) 0 = some a := by
  have h : ixN (a :: l).length 0 = some 0 := by unfold ixN; rw [if_pos (Int.le_refl 0), if_pos (by simp)]; rfl
  simp only [L2.atI, h]
  rfl
theorem at_1 {a b : PyData} {l : List PyData} : L2.atI (a :: b :: l) 1 = some b := by
  have h : ixN (a :: b :: l).length 1 = some 1 := by unfold ixN; rw [if_pos (by decide), if_pos (by simp; omega)]; rfl
  simp only [L2.atI, h]
  rfl
theorem at_2 {a b c : PyData} {l : List PyData} : L2.atI (a :: b :: c :: l) 2 = some c := by
  have h : ixN (a :: b :: c :: l).length 2 = some 2 := by unfold ixN; rw [if_pos (by decide), if_pos (by simp; omega)]; rfl
  simp only [L2.atI, h]
  rfl
theorem at_3 {a b c d : PyData} {l : List PyData} : L2.atI (a :: b :: c :: d :: l) 3 = some d := by
  have h : ixN (a :: b :: c :: d :: l).length 3 = some 3 := by unfold ixN; rw [if_pos (by decide), if_pos (by simp; omega)]; rfl
  simp only [L2.atI, h]
  rfl
structure Pc where
  f : Int
  k : Int
  t : Int
  y : Int
def pcD (p : Pc) : PyData := .tuple [.int p.f, .int p.k, .int p.t, .int p.y]
def pcL (p : Pc) : List Int := [p.f, p.k, p.t, p.y]
theorem pcD_L (p : Pc) : pcD p = tupD (pcL p) := rfl
/-- a tuple is short -/
def okT (x : PyData) : Prop := ∀ ds, x = .tuple ds → ds.length ≤ 16777216
theorem okT_pc (p : Pc) : okT (pcD p) := by
  intro ds h
  cases h
  simp
theorem allW_2 {x : PyData} (h : allW 2 x = true) : ∃ a b, x = .tuple [.int a, .int b] := by
  cases x <;> simp only [allW, Bool.false_eq_true, Bool.and_eq_true, decide_eq_true_eq] at h
  obtain ⟨h1, h2⟩ := h
  rename_i ds
  match ds, h1, h2 with
  | [a, b], _, h2 =>
    cases a <;> cases b <;> simp [wholeB] at h2
    exact ⟨_, _, rfl⟩
theorem allW_4 {x : PyData} (h : allW 4 x = true) : ∃ p, x = pcD p := by
  cases x <;> simp only [allW, Bool.false_eq_true, Bool.and_eq_true, decide_eq_true_eq] at h
  obtain ⟨h1, h2⟩ := h
  rename_i ds
  match ds, h1, h2 with
  | [a, b, c, d], _, h2 =>
    cases a <;> cases b <;> cases c <;> cases d <;> simp [wholeB] at h2
    exact ⟨⟨_, _, _, _⟩, rfl⟩
theorem allW_pc (p : Pc) : allW 4 (pcD p) = true := rfl
def wayB (y : Int) : Bool := decide (y = 1) || decide (y = -1)
def pcB (t : Int) (p : Pc) : Bool := wayB p.y && inB p.f p.k t && inB p.t p.k t
theorem in_way (y : Int) : inD (.int y) (.tuple [.int 1, .int (-1)]) = some (.bool (wayB y)) := by
  simp only [inD, flatD, List.all_cons, List.all_nil, Bool.and_self, memD, List.any_cons, List.any_nil, Bool.or_false, PyData.eqv, wayB, and_self, if_true]
  congr 3 <;> exact decide_eq_decide.mpr ⟨fun h => h.symm, fun h => h.symm⟩
theorem sp_is_piece_no {x : PyData} {t : Int} {m : Mem} {Q : EV → Mem → Prop} (hx : okT x) (h : allW 4 x = false) : wF m__is_piece [.d x, .d (.int t)] m Q ↔ Q (.d (.bool false)) m := by
  refine wF_det ?_
  refine wF_fnD (b := b__is_piece) (by simp only [List.length_cons, List.length_nil]) ?_
  unfold b__is_piece
  simp only [List.map_cons, List.map_nil, List.replicate, Nat.reduceSub, List.cons_append, List.nil_append]
  refine seq_step fun K kn kr kb kc => ?_
  simp! only [↓sp_are_whole (k := 4) (n := 4) rfl (by decide) hx, h]
  refine kr _ _ ?_
  simp! only []
theorem sp_is_piece {p : Pc} {t : Int} {m : Mem} {Q : EV → Mem → Prop} : wF m__is_piece [.d (pcD p), .d (.int t)] m Q ↔ Q (.d (.bool (pcB t p))) m := by
  refine wF_det ?_
  refine wF_fnD (b := b__is_piece) (by simp only [List.length_cons, List.length_nil]) ?_
  unfold b__is_piece
  simp only [List.map_cons, List.map_nil, List.replicate, Nat.reduceSub, List.cons_append, List.nil_append]
  refine seq_step fun K kn kr kb kc => ?_
  simp! only [↓sp_are_whole (k := 4) (n := 4) rfl (by decide) (okT_pc p), allW_pc]
  refine kn _ _ ?_
  clear kn kr kb kc
  refine seq_step fun K kn kr kb kc => ?_
  simp! only [pcD]
  refine kn _ _ ?_
  clear kn kr kb kc
  simp! only [in_way, ↓sp_is_within, pcB]
  cases wayB p.y <;> simp! only [Bool.true_and, Bool.false_and]
  cases inB p.f p.k t <;> simp! only [Bool.true_and, Bool.false_and]
def pcsB (t : Int) (x : PyData) : Bool := match x with
  | .tuple [.int f, .int k, .int o, .int y] => pcB t ⟨f, k, o, y⟩
  | _ => false
theorem sp_is_piece' {x : PyData} {t : Int} {m : Mem} {Q : EV → Mem → Prop} (hx : okT x) : wF m__is_piece [.d x, .d (.int t)] m Q ↔ Q (.d (.bool (pcsB t x))) m := by
  cases h : allW 4 x with
  | true =>
    obtain ⟨p, rfl⟩ := allW_4 h
    exact sp_is_piece
  | false =>
    rw [sp_is_piece_no hx h]
    have : pcsB t x = false := by
      unfold pcsB
      split
      · cases h
      · rfl
    rw [this]
theorem sp_are_pieces {xs : List PyData} {t : Int} {m : Mem} {Q : EV → Mem → Prop} (hl : xs.length ≤ 16777216) (hx : ∀ x ∈ xs, okT x) : wF m__are_pieces [.d (.list xs), .d (.int t)] m Q ↔ Q (.d (.bool (xs.all (pcsB t)))) m := by
  refine wF_det ?_
  refine wF_fnD (b := b__are_pieces) (by simp only [List.length_cons, List.length_nil]) ?_
  unfold b__are_pieces
  simp only [List.map_cons, List.map_nil, List.replicate, Nat.reduceSub, List.cons_append, List.nil_append]
  simp! only []
  refine wE_map xs EV.d (fun x => .bool (pcsB t x)) (by rw [sizeLine_eq]; exact hl) ?_ ?_ ?_
  · simp! only []
    exact fun _ => trivial
  · intro a ha M hM
    simp! only [↓sp_is_piece' (hx a ha)]
  · simp! only [allD_map]
/-! ### fill -/
theorem asI_pcL (p : Pc) : asI [.int p.f, .int p.k, .int p.t, .int p.y] = some (pcL p) := rfl
theorem asT_pc : ∀ ps : List Pc, asT 4 (ps.map pcD) = some (ps.map pcL)
  | [] => rfl
  | p :: ps => by
    show (match asI [.int p.f, .int p.k, .int p.t, .int p.y] with
      | some ns => if ns.length = 4 then (asT 4 (ps.map pcD)).map (ns :: ·) else none
      | none => none) = _
    rw [asI_pcL]
    show (if (pcL p).length = 4 then (asT 4 (ps.map pcD)).map (pcL p :: ·) else none) = _
    rw [if_pos (show (pcL p).length = 4 from rfl), asT_pc ps]
    rfl
theorem map_tup : ∀ ps : List Pc, (ps.map pcL).map tupD = ps.map pcD
  | [] => rfl
  | p :: ps => by rw [List.map_cons, List.map_cons, List.map_cons, map_tup ps, pcD_L]
theorem sorted_pc (ps : List Pc) : sortedD (.list (ps.map pcD)) = some (.list ((srtK pcL ps).map pcD)) := by
  cases ps with
  | nil => rfl
  | cons p ps =>
    have e1 : asI ((p :: ps).map pcD) = none := rfl
    have e2 := asT_pc (p :: ps)
    simp only [sortedD, e1]
    show (match asT 4 ((p :: ps).map pcD) with
      | some nss => some (PyData.list ((srtK id nss).map tupD))
      | none => none) = _
    rw [e2]
    show some (PyData.list ((srtK id ((p :: ps).map pcL)).map tupD)) = _
    rw [← srtK_map, map_tup]
def fillG (t : Int) : Int → List Pc → Bool
  | e, [] => decide (e = t)
  | e, p :: ps => decide (p.f = e) && fillG t (e + p.k) ps
theorem srtK_len {α : Type} {k : α → List Int} (xs : List α) : (srtK k xs).length = xs.length := (srtK_perm xs).length_eq
theorem sp_fill {ps : List Pc} {t : Int} {m : Mem} {Q : EV → Mem → Prop} : wF m__fill [.d (.list (ps.map pcD)), .d (.int t)] m Q ↔ Q (.d (.bool (fillG t 0 (srtK pcL ps)))) m := by
  refine wF_det ?_
  refine wF_fnD (b := b__fill) (by simp only [List.length_cons, List.length_nil]) ?_
  unfold b__fill
  simp only [List.map_cons, List.map_nil, List.replicate, Nat.reduceSub, List.cons_append, List.nil_append]
  refine seq_step fun K kn kr kb kc => ?_
  simp! only []
  refine kn _ _ ?_
  clear kn kr kb kc
  refine seq_step fun K kn kr kb kc => ?_
  simp! only [sorted_pc, List.map_map]
  refine for_ls (fun _ => trivial) (srtK pcL ps) (EV.d ∘ pcD) (fun pre post e m' => m' = m ∧ ∃ a : Int, e = [some (.d (.list (ps.map pcD))), some (.d (.int t)), some (.d (.int a)), none] ∧ fillG t 0 (srtK pcL ps) = fillG t a post) ?_ ?_ _ _ ⟨rfl, 0, rfl, rfl⟩
  · rintro pre p post e m' hs ⟨rfl, a, rfl, ha⟩
    simp! only [Function.comp]
    refine seq_step fun K2 kn2 kr2 kb2 kc2 => ?_
    simp! only [pcD, at_0, neD_int]
    by_cases h : p.f = a
    · simp! only [h, decide_true]
      refine kn2 _ _ ?_
      clear kn2 kr2 kb2 kc2
      simp! only [at_1]
      refine ⟨_, rfl, ?_⟩
      rw [ha]
      simp [fillG, h]
    · simp! only [h, decide_false]
      refine kr2 _ _ ?_
      simp! only []
      refine kr _ _ ?_
      simp! only []
      rw [ha]
      simp [fillG, h]
  · rintro e m' ⟨rfl, a, rfl, ha⟩
    refine kn _ _ ?_
    clear kn kr kb kc
    simp! only [eqD_int, ha, fillG]
/-! ### back, what goes on, the one form -/
def pcR (p : Pc) : Pc := ⟨p.t, p.k, p.f, p.y⟩
theorem sl_pc (p : Pc) : slD (pcD p) none (some 4) = some (pcD p) := rfl
theorem sp_back_of {p : Pc} {m : Mem} {Q : EV → Mem → Prop} : wF m_back_of [.d (pcD p)] m Q ↔ Q (.d (pcD (pcR p))) m := by
  refine wF_det ?_
  refine wF_fnD (b := b_back_of) (by simp only [List.length_cons, List.length_nil]) ?_
  unfold b_back_of
  simp only [List.map_cons, List.map_nil, List.replicate, Nat.reduceSub, List.cons_append, List.nil_append]
  refine seq_step fun K kn kr kb kc => ?_
  simp! only [sl_pc]
  simp! only [pcD]
  refine kn _ _ ?_
  clear kn kr kb kc
  simp! only [pcD, pcR]
def goB (a b : Pc) : Bool := decide (b.f = a.f + a.k) && decide (b.y = a.y) && (if b.y = 1 then decide (b.t = a.t + a.k) else decide (b.t + b.k = a.t))
theorem sp_goes_on {a b : Pc} {m : Mem} {Q : EV → Mem → Prop} : wF m_goes_on [.d (pcD a), .d (pcD b)] m Q ↔ Q (.d (.bool (goB a b))) m := by
  refine wF_det ?_
  refine wF_fnD (b := b_goes_on) (by simp only [List.length_cons, List.length_nil]) ?_
  unfold b_goes_on
  simp only [List.map_cons, List.map_nil, List.replicate, Nat.reduceSub, List.cons_append, List.nil_append]
  refine seq_step fun K kn kr kb kc => ?_
  simp! only [pcD, at_0, at_1, at_2, at_3, neD_int]
  by_cases h1 : b.f = a.f + a.k
  · by_cases h2 : b.y = a.y
    · simp! only [h1, h2, decide_true]
      refine kn _ _ ?_
      clear kn kr kb kc
      refine seq_step fun K kn kr kb kc => ?_
      simp! only [at_0, at_1, at_2, at_3, eqD_int]
      by_cases h3 : a.y = 1
      · simp! only [h3, decide_true]
        refine kr _ _ ?_
        simp! only [goB, h1, h2, h3, decide_true, Bool.true_and]
      · simp! only [h3, decide_false]
        refine kn _ _ ?_
        clear kn kr kb kc
        simp! only [at_0, at_1, at_2, at_3, eqD_int, goB, h1, h2, h3, decide_true, Bool.true_and]
    · simp! only [h1, h2, decide_true, decide_false]
      refine kr _ _ ?_
      simp! only [goB, h1, h2, decide_true, decide_false, Bool.true_and, Bool.false_and]
  · simp! only [h1, decide_false]
    refine kr _ _ ?_
    simp! only [goB, h1, decide_false, Bool.false_and]
def oneS (out : List Pc) (p : Pc) : List Pc := match out.getLast? with
  | some a => if goB a p then out.dropLast ++ [⟨a.f, a.k + p.k, min a.t p.t, a.y⟩] else out ++ [p]
  | none => out ++ [p]
def oneF (ps : List Pc) : List Pc := ps.foldl oneS []
theorem oneS_len (out : List Pc) (p : Pc) : (oneS out p).length ≤ out.length + 1 := by
  unfold oneS
  split
  · split <;> simp
  · simp
theorem at_last {xs : List PyData} {x : PyData} : L2.atI (xs ++ [x]) (-1) = some x := by
  have h : ixN (xs ++ [x]).length (-1) = some xs.length := by
    unfold ixN
    rw [if_neg (by decide), List.length_append, List.length_singleton, if_pos (by push_cast; omega)]
    congr 1
    push_cast
    omega
  simp only [L2.atI, h]
  simp
theorem ix_last {xs : List PyData} {x : PyData} : ixN (xs ++ [x]).length (-1) = some xs.length := by
  unfold ixN
  rw [if_neg (by decide), List.length_append, List.length_singleton, if_pos (by push_cast; omega)]
  congr 1
  push_cast
  omega
theorem sp_one_form {ps : List Pc} {m : Mem} {Q : EV → Mem → Prop} (hl : ps.length ≤ 16777216) : wF m__one_form [.d (.list (ps.map pcD))] m Q ↔ Q (.d (.list ((oneF ps).map pcD))) m := by
  refine wF_det ?_
  refine wF_fnD (b := b__one_form) (by simp only [List.length_cons, List.length_nil]) ?_
  unfold b__one_form
  simp only [List.map_cons, List.map_nil, List.replicate, Nat.reduceSub, List.cons_append, List.nil_append]
  refine seq_step fun K kn kr kb kc => ?_
  simp! only []
  refine kn _ _ ?_
  clear kn kr kb kc
  refine seq_step fun K kn kr kb kc => ?_
  simp! only [List.map_map]
  refine for_ls (fun _ => trivial) ps (EV.d ∘ pcD) (fun pre post e m' => m' = m ++ [.lst ((oneF pre).map pcD)] ∧ (oneF pre).length ≤ pre.length ∧ e = [some (.d (.list (ps.map pcD))), some (.l m.length), none, none, none, none, none]) ?_ ?_ _ _ ⟨rfl, Nat.le_refl _, rfl⟩
  · rintro pre p post e m' hs ⟨rfl, hn, rfl⟩
    have e1 : oneF (pre ++ [p]) = oneS (oneF pre) p := by unfold oneF; rw [List.foldl_append]; rfl
    have l1 := oneS_len (oneF pre) p
    have l2 : pre.length < ps.length := by rw [hs]; simp
    rcases List.eq_nil_or_concat (oneF pre) with h | ⟨xs, a, h⟩
    · simp! only [Function.comp, h, List.map_nil, List.isEmpty_nil]
      simp [↓ifK_t, ↓ifK_f, gA0, gA1, gA2, gA3, sA0, sA1, sA2, sA3, tA0, tA1, tA9, mA0, mA1, List.append_assoc, List.length_append, Nat.add_assoc, Nat.add_zero, ↓strK_s, ↓gdK_d, ↓gdK_l, ↓wE_inC, ↓wE_ixC, ↓wE_getD, ↓wE_var, ↓wE_c, ↓wA_nil, ↓wA_cons, ↓wE_bin, ↓wE_binF, ↓wE_cb, c1_d, c1F_d, c2_d, c1_l, oV_d, oVF_d, oV_ld, oV_dl, oVF_ld, vw_l, vwO_lst, vwO_dct, ↓wB_of, ↓wB_tru, ↓wB_and, ↓wB_or, ↓wB_not, ↓boolK_b, ↓wE_and, ↓wE_or, ↓wE_not, ↓wE_if, ↓wE_isN, isnE, ↓wE_is, ↓wE_is2, ↓bK_b, ↓wE_chain, ↓wE_call, ↓wE_lst, ↓wE_tup, ↓wE_tupT, ↓wE_lstL, ↓wE_dct0, ↓wE_dctL, ↓seqK_l, ↓seqK_t, ↓wE_listL, ↓intK_i, ↓wE_lrg, ↓wE_neg, ↓datK_d, ↓plK_l, ↓lstK_l, ↓dctK_l, ↓wE_app, ↓wE_pop, ↓wE_get, ↓wS_put, ↓wS_setIx, ↓wO_no, ↓wO_yes, ↓wE_sl, ↓wE_rev, vw_d, ↓wE_frzO, ↓wE_fld, ↓insK_i, ↓wS_fldP, ↓wE_make, ↓wE_meth, ↓wS_nil, ↓wS_never, ↓wS_set, ↓wS_ex, ↓wS_ret, ↓wS_retN, ↓wS_if, ↓wS_bk, ↓wS_ct, ↓wS_w, wipeO_nx, wipeO_bk, wipeO_ct, wipeO_rt, wipeE_nil, wipeE_cons, ↓zK_nx, ↓zK_rt, ↓wS_z, zSlots_nil, zSlots_cons, zTo_l, zTo_d, zTo_n, ↓asgK_s, ↓wS_asg, gNm_is, gTpE_d, gTpE_t, setAllE_nil, setAllE_cons, ↓augK_i, ↓wS_aug, ↓l2K_i, ↓l3K_i, ↓wS_par, ↓wS_par3, ↓retD_nx, ↓retD_d, ↓retD_o, ↓retD_l, ↓wS_for, ↓wI_any, ↓wI_rg1, ↓wI_rg2, ↓oK_some, ↓oK_none, ↓oK_ite, asD, Option.map_some, Option.bind_some, List.set_cons_zero, List.set_cons_succ, List.getElem?_cons_zero, List.getElem?_cons_succ, List.map_cons, List.map_nil, List.replicate, List.cons_append, List.nil_append, List.length_cons, List.length_nil, Nat.reduceSub, Nat.reduceAdd, Nat.reduceLeDiff, Nat.reduceLT, reduceIte, Bool.false_eq_true, Bool.not_true, Bool.not_false, decide_eq_true_eq, Bool.not_eq_true', decide_eq_false_iff_not, true_and, and_true, sizeLine_eq, addD, subD, truD, ltD, leD, gtD, geD, cmpI, ixD, lenD, isT_int, isT_bool, isT_str, isT_list, isT_tuple, isT2, ty_int, ty_bool, ty_str, ty_list, ty_tuple, e1, oneS, h]
    · rw [List.concat_eq_append] at h
      have e2 : oneF (pre ++ [p]) = if goB a p then xs ++ [⟨a.f, a.k + p.k, min a.t p.t, a.y⟩] else xs ++ [a, p] := by
        rw [e1, h]
        unfold oneS
        simp
      have ne : (xs.map pcD ++ [pcD a]).isEmpty = false := by simp
      have hxl : xs.length + 1 ≤ pre.length := by rw [h] at hn; simpa using hn
      rw [e2]
      simp! only [Function.comp, h, List.map_append, List.map_cons, List.map_nil, ne, at_last, ↓sp_goes_on]
      cases hg : goB a p
      · simp! only [Bool.false_eq_true, if_false, List.map_append, List.map_cons, List.map_nil, List.length_map]
        exact ⟨by omega, by first | omega | (simp; omega)⟩
      · simp! only []
        refine seq_step fun K2 kn2 kr2 kb2 kc2 => ?_
        simp! only [at_last]
        simp! only [pcD]
        refine kn2 _ _ ?_
        clear kn2 kr2 kb2 kc2
        have ew : [PyData.int p.f, .int p.k, .int p.t, .int p.y] = [PyData.int p.f, .int p.k, .int p.t, .int p.y] := rfl
        simp! only [at_1, at_2, min2I, ix_last, List.map_append, List.map_cons, List.map_nil, if_true]
        have il : ixN ((xs.map pcD).length + 1) (-1) = some (xs.map pcD).length := by
          have := @ix_last (xs.map pcD) .none
          rwa [List.length_append, List.length_singleton] at this
        have se : (xs.map pcD ++ [pcD a]).set (xs.map pcD).length (pcD ⟨a.f, a.k + p.k, min a.t p.t, a.y⟩) = xs.map pcD ++ [pcD ⟨a.f, a.k + p.k, min a.t p.t, a.y⟩] := by
          rw [List.set_append_right _ _ (Nat.le_refl _), Nat.sub_self]
          rfl
        simp only [pcD] at se
        simp! only [il, se, pcD]
        omega
  · rintro e m' ⟨rfl, hn, rfl⟩
    simp! only []
    refine kn _ _ ?_
    clear kn kr kb kc
    simp! only []
def lay0 (t : Int) (ps : List Pc) : List (Str × PyData) := [("_total", .int t), ("_pieces", .list ((oneF (srtK pcL ps)).map pcD))]
/-- a laying as told -/
structure OkLay (t : Int) (ps : List Pc) : Prop where
  t0 : 0 ≤ t
  t1 : t ≤ 2000000000000000000
  len : ps.length ≤ 16777216
  each : ∀ p ∈ ps, pcB t p = true
  fill : fillG t 0 (srtK pcL ps) = true
  back : fillG t 0 (srtK pcL (ps.map pcR)) = true
theorem pcsB_pc (t : Int) (p : Pc) : pcsB t (pcD p) = pcB t p := rfl
theorem sp_lay {t : Int} {ps : List Pc} {R : Mem} {Q : EV → Mem → Prop} (h : OkLay t ps) : wF m_Lay___init__ [.l R.length, .d (.int t), .d (.list (ps.map pcD))] (R ++ [.ins "Lay" []]) Q ↔ Q (.d .none) (R ++ [.ins "Lay" (lay0 t ps)]) := by
  refine wF_det ?_
  refine wF_fnD (b := b_Lay___init__) (by simp only [List.length_cons, List.length_nil]) ?_
  unfold b_Lay___init__
  simp only [List.map_cons, List.map_nil, List.replicate, Nat.reduceSub, List.cons_append, List.nil_append]
  refine seq_step fun K kn kr kb kc => ?_
  simp! only [↓sp_is_from_to, betB, h.t0, h.t1, decide_true, Bool.and_self]
  refine kn _ _ ?_
  clear kn kr kb kc
  refine seq_step fun K kn kr kb kc => ?_
  have ea : (ps.map pcD).all (pcsB t) = true := by
    rw [List.all_map, List.all_eq_true]
    exact fun p hp => h.each p hp
  simp! only [↓sp_are_pieces (show (ps.map pcD).length ≤ 16777216 by rw [List.length_map]; exact h.len) (fun x hx => by obtain ⟨p, _, rfl⟩ := List.mem_map.mp hx; exact okT_pc p), ea]
  refine kn _ _ ?_
  clear kn kr kb kc
  refine seq_step fun K kn kr kb kc => ?_
  simp! only [↓sp_fill, h.fill]
  refine wE_map ps (EV.d ∘ pcD) (fun p => pcD (pcR p)) (by rw [sizeLine_eq]; exact h.len) ?_ ?_ ?_
  · simp! only [List.map_map]
    exact fun _ => trivial
  · intro a ha M hM
    simp! only [Function.comp, ↓sp_back_of]
  have em : (ps.map fun p => pcD (pcR p)) = (ps.map pcR).map pcD := by rw [List.map_map]; rfl
  rw [em]
  simp! only [↓sp_fill, h.back]
  refine kn _ _ ?_
  clear kn kr kb kc
  refine seq_step fun K kn kr kb kc => ?_
  simp! only []
  refine kn _ _ ?_
  clear kn kr kb kc
  simp! only [sorted_pc, ↓sp_one_form (show (srtK pcL ps).length ≤ 16777216 by rw [srtK_len]; exact h.len)]
  have n1 : (Str.ofString "_total" = Str.ofString "_pieces") = False := eq_false (by decide +kernel)
  have f1 : fdPut "_pieces" (.list ((oneF (srtK pcL ps)).map pcD)) (fdPut "_total" (.int t) []) = lay0 t ps := by
    simp only [fdPut, n1, if_false, lay0]
  rw [f1]
  exact ⟨by simp [fdPut], List.take_of_length_le (by simp)⟩
theorem lay_total (t : Int) (ps : List Pc) : fdGet "_total" (lay0 t ps) = some (.int t) := rfl
theorem sp_spots {fs : List (Str × PyData)} {t : Int} {m : Mem} {Q : EV → Mem → Prop} (h : fdGet "_total" fs = some (.int t)) : wF m_Lay_spots [.o "Lay" fs] m Q ↔ Q (.d (.int t)) m := by
  refine wF_det ?_
  refine wF_fnD (b := b_Lay_spots) (by simp only [List.length_cons, List.length_nil]) ?_
  unfold b_Lay_spots
  simp only [List.map_cons, List.map_nil, List.replicate, Nat.reduceSub, List.cons_append, List.nil_append]
  simp! only [insOf, h]
end Lw
set_option Elab.async false
set_option linter.all false
set_option maxRecDepth 100000
set_option maxHeartbeats 4000000
namespace Lw
open PySem PySem.Spec PyProof.Rows DL L2
local macro_rules
  | `(tactic| simp! only [$ls,*]) => `(tactic| simp only [↓ifK_t, ↓ifK_f, gA0, gA1, gA2, gA3, sA0, sA1, sA2, sA3, tA0, tA1, tA9, mA0, mA1, List.append_assoc, List.length_append, Nat.add_assoc, Nat.add_zero, ↓strK_s, ↓gdK_d, ↓gdK_l, ↓wE_inC, ↓wE_ixC, ↓wE_getD, ↓wE_var, ↓wE_c, ↓wA_nil, ↓wA_cons, ↓wE_bin, ↓wE_binF, ↓wE_cb, c1_d, c1F_d, c2_d, c1_l, oV_d, oVF_d, oV_ld, oV_dl, oVF_ld, vw_l, vwO_lst, vwO_dct, ↓wB_of, ↓wB_tru, ↓wB_and, ↓wB_or, ↓wB_not, ↓boolK_b, ↓wE_and, ↓wE_or, ↓wE_not, ↓wE_if, ↓wE_isN, isnE, ↓wE_is, ↓wE_is2, ↓bK_b, ↓wE_chain, ↓wE_call, ↓wE_lst, ↓wE_tup, ↓wE_tupT, ↓wE_lstL, ↓wE_dct0, ↓wE_dctL, ↓seqK_l, ↓seqK_t, ↓wE_listL, ↓intK_i, ↓wE_lrg, ↓wE_neg, ↓datK_d, ↓plK_l, ↓lstK_l, ↓dctK_l, ↓wE_app, ↓wE_pop, ↓wE_get, ↓wS_put, ↓wS_setIx, ↓wO_no, ↓wO_yes, ↓wE_sl, ↓wE_rev, vw_d, ↓wE_frzO, ↓wE_fld, ↓insK_i, ↓wS_fldP, ↓wE_make, ↓wE_meth, ↓wS_nil, ↓wS_never, ↓wS_set, ↓wS_ex, ↓wS_ret, ↓wS_retN, ↓wS_if, ↓wS_bk, ↓wS_ct, ↓wS_w, wipeO_nx, wipeO_bk, wipeO_ct, wipeO_rt, wipeE_nil, wipeE_cons, ↓zK_nx, ↓zK_rt, ↓wS_z, zSlots_nil, zSlots_cons, zTo_l, zTo_d, zTo_n, ↓asgK_s, ↓wS_asg, gNm_is, gTpE_d, gTpE_t, setAllE_nil, setAllE_cons, ↓augK_i, ↓wS_aug, ↓l2K_i, ↓l3K_i, ↓wS_par, ↓wS_par3, ↓retD_nx, ↓retD_d, ↓retD_o, ↓retD_l, ↓wS_for, ↓wI_any, ↓wI_rg1, ↓wI_rg2, ↓oK_some, ↓oK_none, ↓oK_ite, asD, Option.map_some, Option.bind_some, List.set_cons_zero, List.set_cons_succ, List.getElem?_cons_zero, List.getElem?_cons_succ, List.map_cons, List.map_nil, List.replicate, List.cons_append, List.nil_append, List.length_cons, List.length_nil, Nat.reduceSub, Nat.reduceAdd, Nat.reduceLeDiff, Nat.reduceLT, reduceIte, Bool.false_eq_true, Bool.not_true, Bool.not_false, decide_eq_true_eq, Bool.not_eq_true', decide_eq_false_iff_not, true_and, and_true, sizeLine_eq, addD, subD, truD, ltD, leD, gtD, geD, cmpI, ixD, lenD, isT_int, isT_bool, isT_str, isT_list, isT_tuple, isT2, ty_int, ty_bool, ty_str, ty_list, ty_tuple, $ls,*])

def lotG (t : Int) : Int → List PyData → Bool
  | _, [] => true
  | e, x :: xs => allW 2 x && match x with
    | .tuple [.int a, .int b] => decide (e ≤ a) && inB a b t && lotG t (a + b) xs
    | _ => false
def lotB (t : Int) : PyData → Bool
  | .list ds => lotG t 0 ds
  | .tuple ds => lotG t 0 ds
  | _ => false
/-- what a look can walk -/
def okL : PyData → Prop
  | .list ds => ds.length ≤ 16777216 ∧ ∀ d ∈ ds, okT d
  | .tuple ds => ds.length ≤ 16777216 ∧ ∀ d ∈ ds, okT d
  | _ => True
theorem lotG_no {t : Int} : ∀ {ds : List PyData} {e : Int}, ds.all (allW 2) = false → lotG t e ds = false
  | [], _, h => by cases h
  | x :: ds, e, h => by
    rw [List.all_cons, Bool.and_eq_false_iff] at h
    unfold lotG
    rcases h with h | h
    · rw [h, Bool.false_and]
    · split
      · rw [lotG_no h, Bool.and_false, Bool.and_false]
      · rw [Bool.and_false]
theorem sp_is_lot {fs : List (Str × PyData)} {t : Int} {x : PyData} {m : Mem} {Q : EV → Mem → Prop} (hf : fdGet "_total" fs = some (.int t)) (hg : fdGet "spots" fs = none) (hx : okL x) : wF m_is_lot [.o "Lay" fs, .d x] m Q ↔ Q (.d (.bool (lotB t x))) m := by
  refine wF_det ?_
  refine wF_fnD (b := b_is_lot) (by simp only [List.length_cons, List.length_nil]) ?_
  unfold b_is_lot
  simp only [List.map_cons, List.map_nil, List.replicate, Nat.reduceSub, List.cons_append, List.nil_append]
  cases x with
  | list ds | tuple ds =>
    obtain ⟨hl, he⟩ := hx
    refine seq_step fun K kn kr kb kc => ?_
    simp! only []
    refine wE_map ds EV.d (fun x => .bool (allW 2 x)) (by rw [sizeLine_eq]; exact hl) ?_ ?_ ?_
    · simp! only []
      exact fun _ => trivial
    · intro a ha M hM
      simp! only [↓sp_are_whole (k := 2) (n := 2) rfl (by decide) (he a ha)]
    simp! only [allD_map]
    cases hw : ds.all (allW 2) with
    | false =>
      simp! only []
      refine kr _ _ ?_
      simp! only [lotB, lotG_no hw]
    | true =>
      simp! only []
      refine kn _ _ ?_
      clear kn kr kb kc
      refine seq_step fun K kn kr kb kc => ?_
      simp! only []
      refine kn _ _ ?_
      clear kn kr kb kc
      refine seq_step fun K kn kr kb kc => ?_
      simp! only []
      refine for_ls (fun _ => trivial) ds EV.d (fun pre post e m' => m' = m ∧ ∃ a : Int, ∃ d : PyData, e = [some (.o "Lay" fs), some (.d d), some (.d (.int a)), none, none, none] ∧ lotG t 0 ds = lotG t a post) ?_ ?_ _ _ ⟨rfl, 0, _, rfl, rfl⟩
      · rintro pre p post e m' hs ⟨rfl, a, d, rfl, ha⟩
        have hp : allW 2 p = true := List.all_eq_true.mp hw p (by rw [hs]; simp)
        obtain ⟨b, c, rfl⟩ := allW_2 hp
        have ew : lotG t a (.tuple [.int b, .int c] :: post) = (decide (a ≤ b) && inB b c t && lotG t (b + c) post) := by
          simp only [lotG, hp, Bool.true_and]
        rw [ew] at ha
        simp! only []
        refine seq_step fun K2 kn2 kr2 kb2 kc2 => ?_
        simp! only []
        by_cases h1 : b < a
        · have h2 : decide (a ≤ b) = false := decide_eq_false (by omega)
          simp! only [h1, decide_true]
          refine kr2 _ _ ?_
          simp! only []
          refine kr _ _ ?_
          simp! only [lotB, ha, h2, Bool.false_and]
        · have h2 : decide (a ≤ b) = true := decide_eq_true (by omega)
          simp! only [h1, decide_false, insOf, hg, ↓sp_spots hf, ↓sp_is_within]
          cases h3 : inB b c t with
          | false =>
            simp! only []
            refine kr2 _ _ ?_
            simp! only []
            refine kr _ _ ?_
            simp! only [lotB, ha, h3, Bool.false_and, Bool.and_false]
          | true =>
            simp! only []
            refine kn2 _ _ ?_
            clear kn2 kr2 kb2 kc2
            simp! only []
            refine ⟨_, _, rfl, ?_⟩
            rw [ha, h2, h3]
            rfl
      · rintro e m' ⟨rfl, a, d, rfl, ha⟩
        refine kn _ _ ?_
        clear kn kr kb kc
        simp! only [lotB, ha, lotG]
  | _ =>
    refine seq_step fun K kn kr kb kc => ?_
    simp! only []
    refine kr _ _ ?_
    simp! only [lotB]
theorem sp_law_is_lot {t : Int} {x : PyData} {m : Mem} {Q : EV → Mem → Prop} : wF m__law_is_lot [.d (.int t), .d x] m Q ↔ Q (.d (.bool (lotB t x))) m := by
  refine wF_det ?_
  refine wF_fnD (b := b__law_is_lot) (by simp only [List.length_cons, List.length_nil]) ?_
  unfold b__law_is_lot
  simp only [List.map_cons, List.map_nil, List.replicate, Nat.reduceSub, List.cons_append, List.nil_append]
  cases x with
  | list ds | tuple ds =>
    refine seq_step fun K kn kr kb kc => ?_
    simp! only []
    refine kn _ _ ?_
    clear kn kr kb kc
    refine seq_step fun K kn kr kb kc => ?_
    simp! only []
    refine kn _ _ ?_
    clear kn kr kb kc
    refine seq_step fun K kn kr kb kc => ?_
    simp! only []
    refine for_ls (fun _ => trivial) ds EV.d (fun pre post e m' => m' = m ∧ ∃ a : Int, ∃ d : PyData, e = [some (.d (.int t)), some (.d d), some (.d (.int a)), none] ∧ lotG t 0 ds = lotG t a post) ?_ ?_ _ _ ⟨rfl, 0, _, rfl, rfl⟩
    · rintro pre p post e m' hs ⟨rfl, a, d, rfl, ha⟩
      simp! only []
      refine seq_step fun K2 kn2 kr2 kb2 kc2 => ?_
      have no : lotG t a (p :: post) = false → K2 (.rt (.d (.bool false))) m' := fun h => kr2 _ _ (by
        simp! only []
        refine kr _ _ ?_
        simp! only [lotB, ha, h])
      cases p with
      | tuple qs =>
        simp! only [neD_int]
        by_cases h1 : qs.length = 2
        · match qs, h1 with
          | [x, y], _ =>
            have l2 : decide ((([x, y] : List PyData).length : Int) = 2) = true := rfl
            simp! only [l2, at_0, at_1, ↓sp_law_is_stretch]
            cases hw : wholeB x && wholeB y with
            | false =>
              simp! only [Bool.false_and]
              refine no ?_
              have : allW 2 (.tuple [x, y]) = false := by
                simp only [allW, List.all_cons, List.all_nil, Bool.and_true, hw, Bool.and_false]
              simp only [lotG, this, Bool.false_and]
            | true =>
              have hp : allW 2 (.tuple [x, y]) = true := by
                simp only [allW, List.all_cons, List.all_nil, Bool.and_true, hw, List.length_cons, List.length_nil]
                rfl
              obtain ⟨b, c, hbc⟩ := allW_2 hp
              cases hbc
              have ew : lotG t a (.tuple [.int b, .int c] :: post) = (decide (a ≤ b) && inB b c t && lotG t (b + c) post) := by
                simp only [lotG, hp, Bool.true_and]
              rw [ew] at ha no
              simp only [intOf, Bool.true_and]
              cases h3 : inB b c t with
              | false =>
                simp! only []
                refine no ?_
                rw [h3, Bool.and_false, Bool.false_and]
              | true =>
                simp! only [at_0]
                by_cases h1 : b < a
                · have h2 : decide (a ≤ b) = false := decide_eq_false (by omega)
                  simp! only [h1, decide_true]
                  refine no ?_
                  rw [h2, Bool.false_and, Bool.false_and]
                · have h2 : decide (a ≤ b) = true := decide_eq_true (by omega)
                  simp! only [h1, decide_false]
                  refine kn2 _ _ ?_
                  clear kn2 kr2 kb2 kc2
                  simp! only [at_0, at_1]
                  refine ⟨_, _, rfl, ?_⟩
                  rw [ha, h2, h3]
                  rfl
        · have h2 : ¬ ((qs.length : Int) = 2) := by omega
          simp! only [h2, decide_false]
          refine no ?_
          simp only [lotG, allW, h1, decide_false, Bool.false_and]
      | _ =>
        simp! only []
        refine no ?_
        simp only [lotG, allW, Bool.false_and]
    · rintro e m' ⟨rfl, a, d, rfl, ha⟩
      refine kn _ _ ?_
      clear kn kr kb kc
      simp! only [lotB, ha, lotG]
  | _ =>
    refine seq_step fun K kn kr kb kc => ?_
    simp! only []
    refine kr _ _ ?_
    simp! only [lotB]
end Lw
set_option Elab.async false
set_option linter.all false
set_option maxRecDepth 100000
set_option maxHeartbeats 4000000
namespace Lw
open PySem PySem.Spec PyProof.Rows DL L2
local macro_rules
  | `(tactic| simp! only [$ls,*]) => `(tactic| simp only [↓ifK_t, ↓ifK_f, gA0, gA1, gA2, gA3, sA0, sA1, sA2, sA3, tA0, tA1, tA9, mA0, mA1, List.append_assoc, List.length_append, Nat.add_assoc, Nat.add_zero, ↓strK_s, ↓gdK_d, ↓gdK_l, ↓wE_inC, ↓wE_ixC, ↓wE_getD, ↓wE_var, ↓wE_c, ↓wA_nil, ↓wA_cons, ↓wE_bin, ↓wE_binF, ↓wE_cb, c1_d, c1F_d, c2_d, c1_l, oV_d, oVF_d, oV_ld, oV_dl, oVF_ld, vw_l, vwO_lst, vwO_dct, ↓wB_of, ↓wB_tru, ↓wB_and, ↓wB_or, ↓wB_not, ↓boolK_b, ↓wE_and, ↓wE_or, ↓wE_not, ↓wE_if, ↓wE_isN, isnE, ↓wE_is, ↓wE_is2, ↓bK_b, ↓wE_chain, ↓wE_call, ↓wE_lst, ↓wE_tup, ↓wE_tupT, ↓wE_lstL, ↓wE_dct0, ↓wE_dctL, ↓seqK_l, ↓seqK_t, ↓wE_listL, ↓intK_i, ↓wE_lrg, ↓wE_neg, ↓datK_d, ↓plK_l, ↓lstK_l, ↓dctK_l, ↓wE_app, ↓wE_pop, ↓wE_get, ↓wS_put, ↓wS_setIx, ↓wO_no, ↓wO_yes, ↓wE_sl, ↓wE_rev, vw_d, ↓wE_frzO, ↓wE_fld, ↓insK_i, ↓wS_fldP, ↓wE_make, ↓wE_meth, ↓wS_nil, ↓wS_never, ↓wS_set, ↓wS_ex, ↓wS_ret, ↓wS_retN, ↓wS_if, ↓wS_bk, ↓wS_ct, ↓wS_w, wipeO_nx, wipeO_bk, wipeO_ct, wipeO_rt, wipeE_nil, wipeE_cons, ↓zK_nx, ↓zK_rt, ↓wS_z, zSlots_nil, zSlots_cons, zTo_l, zTo_d, zTo_n, ↓asgK_s, ↓wS_asg, gNm_is, gTpE_d, gTpE_t, setAllE_nil, setAllE_cons, ↓augK_i, ↓wS_aug, ↓l2K_i, ↓l3K_i, ↓wS_par, ↓wS_par3, ↓retD_nx, ↓retD_d, ↓retD_o, ↓retD_l, ↓wS_for, ↓wI_any, ↓wI_rg1, ↓wI_rg2, ↓oK_some, ↓oK_none, ↓oK_ite, asD, Option.map_some, Option.bind_some, List.set_cons_zero, List.set_cons_succ, List.getElem?_cons_zero, List.getElem?_cons_succ, List.map_cons, List.map_nil, List.replicate, List.cons_append, List.nil_append, List.length_cons, List.length_nil, Nat.reduceSub, Nat.reduceAdd, Nat.reduceLeDiff, Nat.reduceLT, reduceIte, Bool.false_eq_true, Bool.not_true, Bool.not_false, decide_eq_true_eq, Bool.not_eq_true', decide_eq_false_iff_not, true_and, and_true, sizeLine_eq, addD, subD, truD, ltD, leD, gtD, geD, cmpI, ixD, lenD, isT_int, isT_bool, isT_str, isT_list, isT_tuple, isT2, ty_int, ty_bool, ty_str, ty_list, ty_tuple, $ls,*])

/-! ### what fills a row -/
theorem fill_ends {t : Int} : ∀ {qs : List Pc} {e : Int}, fillG t e qs = true → (∀ q ∈ qs, 1 ≤ q.k) → e ≤ t ∧ ∀ q ∈ qs, e ≤ q.f ∧ q.f + q.k ≤ t
  | [], e, h, _ => ⟨by simp [fillG] at h; omega, by simp⟩
  | q :: qs, e, h, hk => by
    simp only [fillG, Bool.and_eq_true, decide_eq_true_eq] at h
    obtain ⟨h1, h2⟩ := h
    have k1 := hk q (List.mem_cons_self ..)
    obtain ⟨h3, h4⟩ := fill_ends h2 fun x hx => hk x (List.mem_cons_of_mem _ hx)
    refine ⟨by omega, fun x hx => ?_⟩
    rcases List.mem_cons.mp hx with rfl | hx
    · omega
    · have := h4 x hx; omega
theorem leL_of {a b : Pc} (h : a.f < b.f) : leL (pcL a) (pcL b) = true := by
  have h2 : ¬ b.f < a.f := by omega
  have h3 : ¬ b.f = a.f := by omega
  simp [leL, pcL, lexL, h2, h3]
theorem fill_sorted {t : Int} : ∀ {qs : List Pc} {e : Int}, fillG t e qs = true → (∀ q ∈ qs, 1 ≤ q.k) → (qs.map pcL).Pairwise (fun a b => leL a b = true)
  | [], e, h, _ => List.Pairwise.nil
  | q :: qs, e, h, hk => by
    simp only [fillG, Bool.and_eq_true, decide_eq_true_eq] at h
    obtain ⟨h1, h2⟩ := h
    have k1 := hk q (List.mem_cons_self ..)
    have hk2 : ∀ x ∈ qs, 1 ≤ x.k := fun x hx => hk x (List.mem_cons_of_mem _ hx)
    rw [List.map_cons]
    refine List.Pairwise.cons (fun b hb => ?_) (fill_sorted h2 hk2)
    obtain ⟨x, hx, rfl⟩ := List.mem_map.mp hb
    have := (fill_ends h2 hk2).2 x hx
    exact leL_of (by omega)
theorem pcL_inj {a b : Pc} (h : pcL a = pcL b) : a = b := by
  obtain ⟨a1, a2, a3, a4⟩ := a
  obtain ⟨b1, b2, b3, b4⟩ := b
  simp only [pcL, List.cons.injEq, and_true] at h
  obtain ⟨rfl, rfl, rfl, rfl⟩ := h
  rfl
theorem map_inj {α β : Type} {f : α → β} (hf : ∀ a b, f a = f b → a = b) : ∀ {xs ys : List α}, xs.map f = ys.map f → xs = ys
  | [], [], _ => rfl
  | [], _ :: _, h => by cases h
  | _ :: _, [], h => by cases h
  | x :: xs, y :: ys, h => by
    simp only [List.map_cons, List.cons.injEq] at h
    rw [hf _ _ h.1, map_inj hf h.2]
theorem fill_of {t : Int} {ps qs : List Pc} (p : qs.Perm ps) (h : fillG t 0 qs = true) (hk : ∀ q ∈ qs, 1 ≤ q.k) : fillG t 0 (srtK pcL ps) = true ∧ srtK pcL ps = qs := by
  have e1 := srt_is (p.map pcL) (fill_sorted h hk)
  rw [← srtK_map] at e1
  have e2 := map_inj (fun _ _ => pcL_inj) e1
  rw [← e2]
  exact ⟨h, rfl⟩
/-- what tells that pieces are a laying -/
theorem okLay_of {t : Int} {ps qs : List Pc} (t1 : t ≤ 2000000000000000000) (hl : ps.length ≤ 16777216) (hf : fillG t 0 ps = true) (p : qs.Perm (ps.map pcR)) (hb : fillG t 0 qs = true) (hk : ∀ q ∈ ps, 1 ≤ q.k) (hy : ∀ q ∈ ps, wayB q.y = true) : OkLay t ps := by
  have hk2 : ∀ q ∈ qs, 1 ≤ q.k := fun q hq => by
    obtain ⟨x, hx, rfl⟩ := List.mem_map.mp (p.mem_iff.mp hq)
    exact hk x hx
  obtain ⟨a1, a2⟩ := fill_ends hf hk
  obtain ⟨b1, b2⟩ := fill_ends hb hk2
  refine ⟨a1, t1, hl, fun x hx => ?_, (fill_of (.refl _) hf hk).1, (fill_of p hb hk2).1⟩
  have c1 := a2 x hx
  have c2 := b2 (pcR x) (p.mem_iff.mpr (List.mem_map_of_mem hx))
  have c3 := hk x hx
  simp only [pcR] at c2
  simp only [pcB, hy x hx, Bool.true_and, inB, Bool.and_eq_true, decide_eq_true_eq]
  omega
/-- running sums fill -/
theorem fill_run {F : Nat → Pc} {L : Nat → Int} {t : Int} : ∀ (os : List Nat) (a : Int), (∀ pre k post, os = pre ++ k :: post → (F k).f = a + (pre.map L).sum) → (∀ k ∈ os, (F k).k = L k) → a + (os.map L).sum = t → fillG t a (os.map F) = true
  | [], a, _, _, h => by simp [fillG] at h ⊢; exact h
  | o :: os, a, h1, h2, h3 => by
    have e1 := h1 [] o os rfl
    have e2 := h2 o (List.mem_cons_self ..)
    simp only [List.map_nil, List.sum_nil, Int.add_zero] at e1
    simp only [List.map_cons, List.sum_cons] at h3
    simp only [List.map_cons, fillG, e1, e2, decide_true, Bool.true_and]
    refine fill_run os _ (fun pre k post e => ?_) (fun k hk => h2 k (List.mem_cons_of_mem _ hk)) (by omega)
    rw [h1 (o :: pre) k post (by rw [e]; rfl), List.map_cons, List.sum_cons, Int.add_assoc]
/-! ### dicts -/
theorem getP_put {kvs : List (Key × PyData)} {k : Key} {v : PyData} : getP (putP kvs k v) k = some v := by
  unfold getP putP
  split
  · rename_i h
    induction kvs with
    | nil => simp at h
    | cons p r ih =>
      obtain ⟨k2, d⟩ := p
      by_cases e : k2 = k
      · subst e; simp
      · simp only [List.any_cons, e, decide_false, Bool.false_or] at h
        simpa [e] using ih h
  · rename_i h
    rw [List.find?_append]
    have : kvs.find? (fun p => decide (p.1 = k)) = none := by
      rw [List.find?_eq_none]
      intro x hx
      simp only [Bool.not_eq_true, List.any_eq_false] at h
      exact fun z => absurd z (by simpa using h x hx)
    rw [this]
    simp
theorem find_map_ne {k j : Key} {v : PyData} (h : j ≠ k) : ∀ kvs : List (Key × PyData), ((kvs.map fun p => if p.1 = k then (p.1, v) else p).find? fun p => decide (p.1 = j)).map (·.2) = (kvs.find? fun p => decide (p.1 = j)).map (·.2)
  | [] => rfl
  | (k2, d) :: r => by
    have ih := find_map_ne h (v := v) r
    by_cases e : k2 = k
    · subst e
      have : decide (k2 = j) = false := decide_eq_false fun z => h z.symm
      simp only [List.map_cons, if_true, List.find?_cons, this]
      exact ih
    · simp only [List.map_cons, e, if_false, List.find?_cons]
      cases decide (k2 = j)
      · exact ih
      · rfl
theorem getP_put_ne {kvs : List (Key × PyData)} {k j : Key} {v : PyData} (h : j ≠ k) : getP (putP kvs k v) j = getP kvs j := by
  unfold getP putP
  split
  · exact find_map_ne h kvs
  · rw [List.find?_append]
    have : (decide (k = j)) = false := decide_eq_false fun e => h e.symm
    cases kvs.find? (fun p => decide (p.1 = j)) <;> simp [this]
theorem putP_len {kvs : List (Key × PyData)} {k : Key} {v : PyData} : (putP kvs k v).length ≤ kvs.length + 1 := by
  unfold putP
  split <;> simp
theorem range_split {n k : Nat} {pre post : List Nat} (h : List.range n = pre ++ k :: post) : k = pre.length ∧ pre = List.range k := by
  have hl := congrArg List.length h
  simp only [List.length_range, List.length_append, List.length_cons] at hl
  have e1 : k = pre.length := by
    have := congrArg (fun l => l[pre.length]?) h
    simp only [List.getElem?_append_right (Nat.le_refl _), Nat.sub_self, List.getElem?_cons_zero] at this
    rw [List.getElem?_range (by omega)] at this
    exact (Option.some.inj this).symm
  refine ⟨e1, ?_⟩
  have := congrArg (fun l => l.take pre.length) h
  simp only [List.take_left', List.take_range] at this
  rw [← this, e1]
  congr 1
  omega
/-- the k-th of them -/
abbrev nth (ls : List Int) (k : Nat) : Int := ls.getD k 0
theorem at_nth {ls : List Int} {k : Nat} (h : k < ls.length) : L2.atI (ls.map PyData.int) (k : Int) = some (.int (nth ls k)) := by
  have h1 : ixN (ls.map PyData.int).length (k : Int) = some k := by
    unfold ixN
    rw [if_pos (by omega), List.length_map, if_pos (by omega)]
    rfl
  simp only [L2.atI, h1, List.getElem?_map, nth, List.getD_eq_getElem?_getD, Option.getD_some, Option.bind_some]
  rw [List.getElem?_eq_getElem h]
  rfl
def toN : PyData → Nat
  | .int i => i.toNat
  | _ => 0
theorem perm_range {ys : List PyData} {n : Nat} (h : ys.Perm (rgD n)) : ∃ os : List Nat, os.Perm (List.range n) ∧ ys = os.map fun k => PyData.int (k : Nat) := by
  refine ⟨ys.map toN, ?_, ?_⟩
  · have := h.map toN
    rw [rgD, List.map_map] at this
    have e : (toN ∘ fun i : Nat => PyData.int (i : Int)) = id := by funext i; simp [toN, Function.comp]
    rwa [e, List.map_id] at this
  · rw [List.map_map]
    conv => lhs; rw [← List.map_id ys]
    refine List.map_congr_left fun y hy => ?_
    have := h.mem_iff.mp hy
    rw [rgD] at this
    obtain ⟨i, _, rfl⟩ := List.mem_map.mp this
    simp [toN, Function.comp]
theorem perm_sum {xs ys : List Int} (p : xs.Perm ys) : xs.sum = ys.sum := by
  induction p with
  | nil => rfl
  | cons _ _ ih => simp [ih]
  | swap => simp; omega
  | trans _ _ a b => exact a.trans b
theorem map_nth (ls : List Int) : (List.range ls.length).map (nth ls) = ls := by
  apply List.ext_getElem
  · simp
  · intro i h1 h2
    simp [nth, List.getD_eq_getElem?_getD, List.getElem?_eq_getElem h2]
theorem key_int {i : Int} : keyOf (.int i) = some (.inl i) := rfl
theorem sp_law_pieces {n : Nat} {ls : List Int} {q : Pen} {R : Mem} (hq : okP n q) (hn : n + 2 * ls.length ≤ 1000000000) (hl : ls.length ≤ 1000) (h1 : ∀ l ∈ ls, 1 ≤ l) (hs : ls.sum ≤ 2000000000000000000) :
    wF m__law_pieces [.l 0, .d (.list (ls.map PyData.int))] (penO q :: R) (PQ (n + 2 * ls.length) R fun r => ∃ ps, r = .d (.list (ps.map pcD)) ∧ OkLay ls.sum ps ∧ ps.length = ls.length ∧ ps.map Pc.k = ls) := by
  refine wF_fnD (b := b__law_pieces) (by simp only [List.length_cons, List.length_nil]) ?_
  unfold b__law_pieces
  simp only [List.map_cons, List.map_nil, List.replicate, Nat.reduceSub, List.cons_append, List.nil_append]
  refine seq_step fun K kn kr kb kc => ?_
  simp! only [List.length_map]
  refine ⟨by omega, ?_⟩
  have hrl : (rgD ((ls.length : Int).toNat)).length = ls.length := by simp [rgD]
  refine wF_imp (sp_turned_about hq (by omega) (by omega)) ?_
  rintro _ _ ⟨q1, rfl, hq1, ys, rfl, hys⟩
  rw [hrl] at hq1
  rw [Int.toNat_natCast] at hys
  obtain ⟨os, hos, rfl⟩ := perm_range hys
  have hnd : os.Nodup := hos.nodup_iff.mpr List.nodup_range
  have holen : os.length = ls.length := by rw [hos.length_eq, List.length_range]
  simp! only []
  refine kn _ _ ?_
  clear kn kr kb kc
  refine seq_step fun K kn kr kb kc => ?_
  simp! only [List.map_map]
  refine for_ls (fun _ => trivial) os (EV.d ∘ fun k : Nat => PyData.int (k : Nat)) (fun pre post e m' => ∃ kvs : List (Key × PyData), m' = penO q1 :: (R ++ [.dct kvs]) ∧ kvs.length ≤ pre.length ∧ e = [some (.l 0), some (.d (.list (ls.map PyData.int))), some (.d (.list (os.map fun k => PyData.int (k : Nat)))), some (.l (R.length + 1)), some (.d (.int (pre.map (nth ls)).sum)), none, none] ∧
    ∀ p1 k p2, pre = p1 ++ k :: p2 → getP kvs (.inl (k : Nat)) = some (.int (p1.map (nth ls)).sum)) ?_ ?_ _ _ ⟨[], rfl, Nat.le_refl _, rfl, ?_⟩
  · rintro pre k post e m' hsp ⟨kvs, rfl, hkl, rfl, hg⟩
    have hk : k < ls.length := by
      have : k ∈ os := by rw [hsp]; simp
      exact List.mem_range.mp (hos.mem_iff.mp this)
    have hpl : pre.length < ls.length := by
      have := congrArg List.length hsp
      simp only [List.length_append, List.length_cons] at this
      omega
    simp! only [Function.comp]
    refine seq_step fun K2 kn2 kr2 kb2 kc2 => ?_
    simp! only []
    simp! only [key_int]
    refine ⟨by omega, ?_⟩
    refine kn2 _ _ ?_
    clear kn2 kr2 kb2 kc2
    simp! only [at_nth hk]
    have es : ((pre ++ [k]).map (nth ls)).sum = (pre.map (nth ls)).sum + nth ls k := by simp
    rw [es]
    refine ⟨_, rfl, Nat.le_trans putP_len (by omega), rfl, fun p1 k2 p2 hs2 => ?_⟩
    rcases List.append_eq_append_iff.mp hs2 with ⟨a, rfl, hb⟩ | ⟨a, rfl, hb⟩
    · cases a with
      | nil =>
        simp only [List.nil_append, List.cons.injEq] at hb
        rw [List.append_nil, ← hb.1]
        exact getP_put
      | cons b a => simp at hb
    · cases a with
      | nil =>
        simp only [List.nil_append, List.cons.injEq] at hb
        rw [List.append_nil, hb.1]
        exact getP_put
      | cons b a =>
        simp only [List.cons_append, List.cons.injEq] at hb
        obtain ⟨rfl, hb⟩ := hb
        have hne : k2 ≠ k := by
          rintro rfl
          rw [hsp] at hnd
          simp [List.nodup_append] at hnd
        rw [getP_put_ne (fun z => hne (by exact_mod_cast Sum.inl.inj z))]
        exact hg p1 k2 a rfl
  · rintro e m' ⟨kvs, rfl, hkl, rfl, hg⟩
    have hget : ∀ k, k < ls.length → ∃ s : Int, getP kvs (.inl (k : Nat)) = some (.int s) ∧ ∀ p1 p2, os = p1 ++ k :: p2 → s = (p1.map (nth ls)).sum := by
      intro k hk
      have hm : k ∈ os := hos.mem_iff.mpr (List.mem_range.mpr hk)
      obtain ⟨p1, p2, e⟩ := List.append_of_mem hm
      refine ⟨_, hg p1 k p2 e, fun p3 p4 e2 => ?_⟩
      have := hg p3 k p4 e2
      rw [hg p1 k p2 e] at this
      exact PyData.int.inj (Option.some.inj this)
    refine kn _ _ ?_
    clear kn kr kb kc
    refine seq_step fun K kn kr kb kc => ?_
    simp! only []
    refine kn _ _ ?_
    clear kn kr kb kc
    refine seq_step fun K kn kr kb kc => ?_
    simp! only [List.length_map]
    refine ⟨by omega, ?_⟩
    refine for_rg 0 (fun i e m' => ∃ (q2 : Pen) (ps : List Pc), okP (n + ls.length + i.toNat) q2 ∧ ps.length = i.toNat ∧ m' = penO q2 :: (R ++ [.dct kvs, .lst (ps.map pcD)]) ∧
      e = [some (.l 0), some (.d (.list (ls.map PyData.int))), some (.d (.list (os.map fun k => PyData.int (k : Nat)))), some (.l (R.length + 1)), some (.d (.int ((List.range i.toNat).map (nth ls)).sum)), none, some (.l (R.length + 2))] ∧
      ∀ k p, ps[k]? = some p → p.f = ((List.range k).map (nth ls)).sum ∧ p.k = nth ls k ∧ getP kvs (.inl (k : Nat)) = some (.int p.t) ∧ wayB p.y = true) _ ?_ ?_ _ _ ⟨q1, [], hq1.mono (by omega), rfl, rfl, rfl, by simp⟩
    · rintro i e m' i0 i1 ⟨q2, ps, hq2, hpl, rfl, rfl, hps⟩
      obtain ⟨k, rfl⟩ : ∃ k : Nat, i = k := ⟨i.toNat, by omega⟩
      have hk : k < ls.length := by simp at i1; omega
      obtain ⟨s, hs1, _⟩ := hget k hk
      rw [Int.toNat_natCast] at hpl hq2
      simp! only [Int.toNat_natCast]
      refine seq_step fun K2 kn2 kr2 kb2 kc2 => ?_
      simp! only [at_nth hk, key_int, hs1]
      refine wF_imp (sp_pick hq2 (by omega) (by simp) (by simp)) ?_
      rintro _ _ ⟨q3, rfl, hq3, x, hx, rfl⟩
      obtain ⟨y, rfl, hy⟩ : ∃ y : Int, x = .int y ∧ wayB y = true := by
        simp at hx
        rcases hx with rfl | rfl
        · exact ⟨1, rfl, rfl⟩
        · exact ⟨-1, rfl, rfl⟩
      simp! only []
      refine ⟨by rw [List.length_map]; omega, ?_⟩
      refine kn2 _ _ ?_
      clear kn2 kr2 kb2 kc2
      simp! only [at_nth hk]
      have e1 : ((k : Int) + 1).toNat = k + 1 := by omega
      have es : ((List.range (k + 1)).map (nth ls)).sum = ((List.range k).map (nth ls)).sum + nth ls k := by
        rw [List.range_succ, List.map_append, List.sum_append]
        simp
      rw [e1, es]
      refine ⟨q3, ps ++ [⟨((List.range k).map (nth ls)).sum, nth ls k, s, y⟩], hq3.mono (by omega), by simp [hpl], by simp [pcD], rfl, fun j p hj => ?_⟩
      rw [List.getElem?_append] at hj
      split at hj
      · exact hps j p hj
      · rename_i hge
        have e2 : j = k := by
          have := (List.getElem?_eq_some_iff.mp hj).1
          simp at this
          omega
        subst e2
        rw [hpl, Nat.sub_self] at hj
        cases hj
        exact ⟨rfl, rfl, hs1, hy⟩
    · rintro e m' ⟨q2, ps, hq2, hpl, rfl, rfl, hps⟩
      simp! only []
      refine kn _ _ ?_
      clear kn kr kb kc
      simp! only []
      have hn1 : ps.length = ls.length := by omega
      obtain ⟨F, hF⟩ : ∃ F : Nat → Pc, F = fun k => ps.getD k ⟨0, 0, 0, 1⟩ := ⟨_, rfl⟩
      have hFk : ∀ k, k < ls.length → ps[k]? = some (F k) := fun k hk => by
        rw [hF]
        simp [List.getD_eq_getElem?_getD, List.getElem?_eq_getElem (show k < ps.length by omega)]
      have hps2 : ps = (List.range ls.length).map F := by
        apply List.ext_getElem?
        intro i
        by_cases h : i < ls.length
        · rw [hFk i h, List.getElem?_map, List.getElem?_range h]
          rfl
        · rw [List.getElem?_eq_none (by omega), List.getElem?_eq_none (by simp; omega)]
      have hpk : ps.map Pc.k = ls := by
        rw [hps2, List.map_map]
        conv => rhs; rw [← map_nth ls]
        refine List.map_congr_left fun k hk => ?_
        exact (hps k _ (hFk k (List.mem_range.mp hk))).2.1
      have hmem : ∀ p ∈ ps, ∃ k, k < ls.length ∧ p = F k := fun p hp => by
        rw [hps2] at hp
        obtain ⟨k, hk, rfl⟩ := List.mem_map.mp hp
        exact ⟨k, List.mem_range.mp hk, rfl⟩
      refine ⟨q2, rfl, hq2.mono (by omega), ps, rfl, okLay_of (qs := os.map fun k => pcR (F k)) hs (by omega) ?_ ?_ ?_ ?_ ?_, hn1, hpk⟩
      · rw [hps2]
        refine fill_run (L := nth ls) _ 0 (fun pre k post e => ?_) (fun k hk => (hps k _ (hFk k (List.mem_range.mp hk))).2.1) (by rw [map_nth]; omega)
        have hk : k < ls.length := by
          have : k ∈ List.range ls.length := by rw [e]; simp
          exact List.mem_range.mp this
        rw [(hps k _ (hFk k hk)).1, (range_split e).2]
        omega
      · rw [hps2, List.map_map]
        exact hos.map _
      · refine fill_run (F := fun k => pcR (F k)) (L := nth ls) _ 0 (fun pre k post e => ?_) (fun k hk => ?_) ?_
        · have hk : k < ls.length := List.mem_range.mp (hos.mem_iff.mp (by rw [e]; simp))
          obtain ⟨s, hs1, hs2⟩ := hget k hk
          have h3 := (hps k _ (hFk k hk)).2.2.1
          rw [hs1] at h3
          have h4 := PyData.int.inj (Option.some.inj h3)
          show (F k).t = _
          rw [← h4, hs2 pre post e]
          omega
        · exact (hps k _ (hFk k (List.mem_range.mp (hos.mem_iff.mp hk)))).2.1
        · rw [perm_sum (hos.map (nth ls)), map_nth]
          omega
      · intro p hp
        obtain ⟨k, hk, rfl⟩ := hmem p hp
        rw [(hps k _ (hFk k hk)).2.1]
        have hm : nth ls k ∈ (List.range ls.length).map (nth ls) := List.mem_map_of_mem (List.mem_range.mpr hk)
        rw [map_nth] at hm
        exact h1 _ hm
      · intro p hp
        obtain ⟨k, hk, rfl⟩ := hmem p hp
        exact (hps k _ (hFk k hk)).2.2.2
  · rintro p1 k p2 h
    cases p1 <;> cases h
end Lw
set_option Elab.async false
set_option linter.all false
set_option maxRecDepth 100000
set_option maxHeartbeats 4000000
namespace Lw
open PySem PySem.Spec PyProof.Rows DL L2
local macro_rules
  | `(tactic| simp! only [$ls,*]) => `(tactic| simp only [↓ifK_t, ↓ifK_f, gA0, gA1, gA2, gA3, sA0, sA1, sA2, sA3, tA0, tA1, tA9, mA0, mA1, List.append_assoc, List.length_append, Nat.add_assoc, Nat.add_zero, ↓strK_s, ↓gdK_d, ↓gdK_l, ↓wE_inC, ↓wE_ixC, ↓wE_getD, ↓wE_var, ↓wE_c, ↓wA_nil, ↓wA_cons, ↓wE_bin, ↓wE_binF, ↓wE_cb, c1_d, c1F_d, c2_d, c1_l, oV_d, oVF_d, oV_ld, oV_dl, oVF_ld, vw_l, vwO_lst, vwO_dct, ↓wB_of, ↓wB_tru, ↓wB_and, ↓wB_or, ↓wB_not, ↓boolK_b, ↓wE_and, ↓wE_or, ↓wE_not, ↓wE_if, ↓wE_isN, isnE, ↓wE_is, ↓wE_is2, ↓bK_b, ↓wE_chain, ↓wE_call, ↓wE_lst, ↓wE_tup, ↓wE_tupT, ↓wE_lstL, ↓wE_dct0, ↓wE_dctL, ↓seqK_l, ↓seqK_t, ↓wE_listL, ↓intK_i, ↓wE_lrg, ↓wE_neg, ↓datK_d, ↓plK_l, ↓lstK_l, ↓dctK_l, ↓wE_app, ↓wE_pop, ↓wE_get, ↓wS_put, ↓wS_setIx, ↓wO_no, ↓wO_yes, ↓wE_sl, ↓wE_rev, vw_d, ↓wE_frzO, ↓wE_fld, ↓insK_i, ↓wS_fldP, ↓wE_make, ↓wE_meth, ↓wS_nil, ↓wS_never, ↓wS_set, ↓wS_ex, ↓wS_ret, ↓wS_retN, ↓wS_if, ↓wS_bk, ↓wS_ct, ↓wS_w, wipeO_nx, wipeO_bk, wipeO_ct, wipeO_rt, wipeE_nil, wipeE_cons, ↓zK_nx, ↓zK_rt, ↓wS_z, zSlots_nil, zSlots_cons, zTo_l, zTo_d, zTo_n, ↓asgK_s, ↓wS_asg, gNm_is, gTpE_d, gTpE_t, setAllE_nil, setAllE_cons, ↓augK_i, ↓wS_aug, ↓l2K_i, ↓l3K_i, ↓wS_par, ↓wS_par3, ↓retD_nx, ↓retD_d, ↓retD_o, ↓retD_l, ↓wS_for, ↓wI_any, ↓wI_rg1, ↓wI_rg2, ↓oK_some, ↓oK_none, ↓oK_ite, asD, Option.map_some, Option.bind_some, List.set_cons_zero, List.set_cons_succ, List.getElem?_cons_zero, List.getElem?_cons_succ, List.map_cons, List.map_nil, List.replicate, List.cons_append, List.nil_append, List.length_cons, List.length_nil, Nat.reduceSub, Nat.reduceAdd, Nat.reduceLeDiff, Nat.reduceLT, reduceIte, Bool.false_eq_true, Bool.not_true, Bool.not_false, decide_eq_true_eq, Bool.not_eq_true', decide_eq_false_iff_not, true_and, and_true, sizeLine_eq, addD, subD, truD, ltD, leD, gtD, geD, cmpI, ixD, lenD, isT_int, isT_bool, isT_str, isT_list, isT_tuple, isT2, ty_int, ty_bool, ty_str, ty_list, ty_tuple, $ls,*])

/-- pieces of a laying -/
def LayOut (r : EV) : Prop := ∃ ps : List Pc, r = .d (.list (ps.map pcD)) ∧ OkLay (ps.map Pc.k).sum ps ∧ 1 ≤ ps.length ∧ ps.length ≤ 100 ∧ 1 ≤ (ps.map Pc.k).sum
theorem len_le_sum : ∀ {ls : List Int}, (∀ l ∈ ls, 1 ≤ l) → (ls.length : Int) ≤ ls.sum
  | [], _ => by simp
  | l :: ls, h => by
    have h1 := h l (List.mem_cons_self ..)
    have h2 := len_le_sum (ls := ls) fun x hx => h x (List.mem_cons_of_mem _ hx)
    simp only [List.length_cons, List.sum_cons]
    push_cast
    omega
theorem sumD_ints (ls : List Int) : sumD (.list (ls.map PyData.int)) = some (.int ls.sum) := by
  simp only [sumD, asI_ints, Option.map_some]
theorem sp_pieces_out {n : Nat} {ls : List Int} {q : Pen} {R : Mem} (hq : okP n q) (hn : n + 300 ≤ 1000000000) (h1 : ∀ l ∈ ls, 1 ≤ l) (h0 : 1 ≤ ls.length) (hl : ls.length ≤ 100) (hs : ls.sum ≤ 2000000000000000000) :
    wF m__law_pieces [.l 0, .d (.list (ls.map PyData.int))] (penO q :: R) (PQ (n + 200) R LayOut) := by
  refine wF_imp (sp_law_pieces hq (by omega) (by omega) h1 hs) ?_
  rintro _ _ ⟨q1, rfl, hq1, ps, rfl, ho, hl2, hk⟩
  refine ⟨q1, rfl, hq1.mono (by omega), ps, rfl, by rw [hk]; exact ho, by omega, by omega, ?_⟩
  rw [hk]
  have := len_le_sum h1
  omega
theorem sp_law_small {n : Nat} {q : Pen} {R : Mem} (hq : okP n q) (hn : n + 500 ≤ 1000000000) :
    wF m__law_small [.l 0, .d (.int 24)] (penO q :: R) (PQ (n + 300) R LayOut) := by
  refine wF_fnD (b := b__law_small) (by simp only [List.length_cons, List.length_nil]) ?_
  unfold b__law_small
  simp only [List.map_cons, List.map_nil, List.replicate, Nat.reduceSub, List.cons_append, List.nil_append]
  refine seq_step fun K kn kr kb kc => ?_
  simp! only []
  refine wF_imp (sp_draw hq (k := 9) (by omega) (by decide) (by decide)) ?_
  rintro _ _ ⟨q1, rfl, hq1, d1, rfl, d10, d11⟩
  simp! only []
  refine wF_imp (sp_draw hq1 (k := 1 + d1) (by omega) (by omega) (by omega)) ?_
  rintro _ _ ⟨q2, rfl, hq2, d2, rfl, d20, d21⟩
  simp! only [min2I]
  refine wF_imp (sp_draw hq2 (k := 6) (by omega) (by decide) (by decide)) ?_
  rintro _ _ ⟨q3, rfl, hq3, d3, rfl, d30, d31⟩
  try simp! only []
  refine kn _ _ ?_
  clear kn kr kb kc
  refine seq_step fun K kn kr kb kc => ?_
  simp! only []
  refine wF_imp (sp_draw hq3 (k := 5) (by omega) (by decide) (by decide)) ?_
  rintro _ _ ⟨q4, rfl, hq4, d4, rfl, d40, d41⟩
  simp! only [eqD_int]
  -- what holds when the loop begins
  suffices key : ∀ (q5 : Pen) (G : Mem) (l0 many wide : Int), okP (n + 10) q5 → 1 ≤ l0 → l0 ≤ 24 → 0 ≤ many → many ≤ 13 → 1 ≤ wide → wide ≤ 5 →
      K (.nx [some (.l 0), some (.d (.int 24)), some (.l ((R ++ G).length + 1)), some (.d (.int many)), some (.d (.int wide)), none, none]) (penO q5 :: ((R ++ G) ++ [.lst [.int l0]])) by
    refine ifK_of (fun h => ?_) fun h => ?_
    · refine wF_imp (sp_draw hq4 (k := 2) (by omega) (by decide) (by decide)) ?_
      rintro _ _ ⟨q5, rfl, hq5, d5, rfl, d50, d51⟩
      simp! only []
      have := key q5 [.lst [.int (min 24 (1 + d2))]] 1 13 (1 + d5) (hq5.mono (by omega)) (by omega) (by omega) (by omega) (by omega) (by omega) (by omega)
      simpa using this
    · have := key q4 [] (min 24 (1 + d2)) d3 5 (hq4.mono (by omega)) (by omega) (by omega) (by omega) (by omega) (by omega) (by omega)
      simpa using this
  intro q5 G l0 many wide hq5 l1 l2 m0 m1 w0 w1
  obtain ⟨R1, hR1⟩ : ∃ R1, R1 = R ++ G := ⟨_, rfl⟩
  rw [← hR1]
  refine kn _ _ ?_
  clear kn kr kb kc
  refine seq_step fun K kn kr kb kc => ?_
  simp! only []
  refine ⟨by omega, ?_⟩
  refine for_rg 0 (fun i e m' => ∃ (q6 : Pen) (ls : List Int), okP (n + 10 + i.toNat) q6 ∧ ls.length ≥ 1 ∧ (∀ l ∈ ls, 1 ≤ l) ∧ ls.sum ≤ 24 ∧ m' = penO q6 :: (R1 ++ [.lst (ls.map PyData.int)]) ∧
    e = [some (.l 0), some (.d (.int 24)), some (.l (R1.length + 1)), some (.d (.int many)), some (.d (.int wide)), none, none]) _ ?_ ?_ _ _ ⟨q5, [l0], hq5, by simp, by simpa using l1, by simpa using l2, rfl, rfl⟩
  · rintro i e m' i0 i1 ⟨q6, ls, hq6, hl, h1, hs, rfl, rfl⟩
    simp! only []
    refine seq_step fun K2 kn2 kr2 kb2 kc2 => ?_
    simp! only []
    refine wF_imp (sp_draw hq6 (k := wide) (by omega) (by omega) (by omega)) ?_
    rintro _ _ ⟨q7, rfl, hq7, d7, rfl, d70, d71⟩
    simp! only []
    refine kn2 _ _ ?_
    clear kn2 kr2 kb2 kc2
    simp! only [sumD_ints]
    have hle := len_le_sum h1
    refine ifK_of (fun h => ?_) fun h => ?_
    · have h2 := of_decide_eq_true h
      refine ⟨by rw [List.length_map]; omega, q7, ls ++ [1 + d7], hq7.mono (by omega), by simp, fun l hl => ?_, by simp; omega, by simp⟩
      rcases List.mem_append.mp hl with hl | hl
      · exact h1 l hl
      · simp at hl; omega
    · exact ⟨q7, ls, hq7.mono (by omega), hl, h1, hs, rfl⟩
  · rintro e m' ⟨q6, ls, hq6, hl, h1, hs, rfl, rfl⟩
    simp! only []
    refine kn _ _ ?_
    clear kn kr kb kc
    simp! only []
    have hle := len_le_sum h1
    refine wF_imp (sp_pieces_out hq6 (by omega) h1 hl (by omega) (by omega)) ?_
    rintro _ _ ⟨q7, rfl, hq7, ps, rfl, ho⟩
    simp! only []
    refine ⟨q7, ?_, hq7.mono (by omega), ps, rfl, ho⟩
    rw [hR1]
    simp
section
variable {f : ME} {tg : MG} {it : MIt} {vs : List Nat} {e : Env'} {m : Mem} {Q : EV → Mem → Prop}
/-- a comprehension; what is walked may be drawn first -/
theorem wE_compX (J : List EV → List PyData → Mem → Prop) (hi : wI it e m fun xs C m1 => m1.length = m.length ∧ (∀ m, C m) ∧ J xs [] m1)
    (step : ∀ x rest acc m', J (x :: rest) acc m' → m'.length = m.length → oK (tg x (wipeE e vs) (m' ++ [.lst acc])) fun e1 => DL.wE f e1 (m' ++ [.lst acc]) fun v M2 => datK v fun y => ∃ m2, M2 = m2 ++ [.lst acc] ∧ m2.length = m.length ∧ acc.length < sizeLine ∧ J rest (acc ++ [y]) m2)
    (q : ∀ acc m', J [] acc m' → m'.length = m.length → Q (.d (.list acc)) m') : DL.wE (eFrz (eLc it tg cYes f vs)) e m Q := by
  refine wE_compZ J (wI_imp hi fun xs' C m1 z => ?_) q
  obtain ⟨z1, z2, z3⟩ := z
  refine ⟨z1, z3, fun x rest acc m' hj hl => ⟨z2 _, oK_imp (step x rest acc m' hj hl) fun e1 g => ?_⟩, fun acc m' _ => z2 _⟩
  rw [wB_yes, if_pos rfl]
  exact g
end
theorem cut_to {α : Type} (xs : List α) (k : Nat) : DL.cutD xs none (some (k : Int)) = xs.take k := by
  unfold DL.cutD
  rw [HT.sIx_none, HT.sIx_nat, List.drop_zero, Nat.sub_zero]
  by_cases h : k ≤ xs.length
  · rw [Nat.min_eq_left h]
  · rw [Nat.min_eq_right (by omega), List.take_of_length_le (Nat.le_refl _), List.take_of_length_le (by omega)]
theorem cut_from {α : Type} (xs : List α) (k : Nat) : DL.cutD xs (some (k : Int)) none = xs.drop k := by
  unfold DL.cutD
  rw [HT.sIx_none, HT.sIx_nat]
  by_cases h : k ≤ xs.length
  · rw [Nat.min_eq_left h, List.take_of_length_le (by rw [List.length_drop]; exact Nat.le_refl _)]
  · rw [Nat.min_eq_right (by omega), List.drop_of_length_le (by omega), List.drop_of_length_le (by omega)]
    simp
/-- numbers from 1 to some bound, together so many at most -/
theorem sum_le : ∀ {ls : List Int} {B : Int}, (∀ l ∈ ls, l ≤ B) → ls.sum ≤ ls.length * B
  | [], B, _ => by simp
  | l :: ls, B, h => by
    have h1 := h l (List.mem_cons_self ..)
    have h2 := sum_le (ls := ls) (B := B) fun x hx => h x (List.mem_cons_of_mem _ hx)
    simp only [List.length_cons, List.sum_cons]
    push_cast
    rw [Int.add_mul]
    omega
def gold : Nat → Int × Int
  | 0 => (9, 9)
  | i + 1 => ((gold i).2, (gold i).1 + (gold i).2)
theorem gold_le : ∀ i, i ≤ 79 → (gold i).1 ≤ 300000000000000000 ∧ (gold i).2 ≤ 400000000000000000 := by decide +kernel
theorem sp_law_long {n : Nat} {q : Pen} {R : Mem} (hq : okP n q) (hn : n + 1000 ≤ 1000000000) :
    wF m__law_long [.l 0] (penO q :: R) (PQ (n + 700) R LayOut) := by
  have E17 : (10 : Int) ^ 17 = 100000000000000000 := rfl
  refine wF_fnD (b := b__law_long) (by simp only [List.length_cons, List.length_nil]) ?_
  unfold b__law_long
  simp only [List.map_cons, List.map_nil, List.replicate, Nat.reduceSub, List.cons_append, List.nil_append]
  refine seq_step fun K kn kr kb kc => ?_
  simp! only []
  refine wF_imp (sp_draw hq (k := 4) (by omega) (by decide) (by decide)) ?_
  rintro _ _ ⟨q1, rfl, hq1, kind, rfl, k0, k1⟩
  try simp! only []
  refine kn _ _ ?_
  clear kn kr kb kc
  refine seq_step fun K kn kr kb kc => ?_
  simp! only []
  refine wF_imp (sp_draw hq1 (k := 4) (by omega) (by decide) (by decide)) ?_
  rintro _ _ ⟨q2, rfl, hq2, d2, rfl, d20, d21⟩
  try simp! only []
  refine ⟨by omega, ?_⟩
  refine for_rg 0 (fun i e m' => ∃ (q6 : Pen) (ls : List Int), okP (n + 10 + 18 * i.toNat) q6 ∧ ls.length = i.toNat ∧ (∀ l ∈ ls, 1 ≤ l ∧ l ≤ 100000000000000000) ∧ m' = penO q6 :: (R ++ [.lst (ls.map PyData.int)]) ∧
    e = [some (.l 0), some (.l (R.length + 1)), some (.d (.int kind)), none, none, none, none]) _ ?_ ?_ _ _ ⟨q2, [], hq2.mono (by omega), rfl, by simp, rfl, rfl⟩
  · rintro i e m' i0 i1 ⟨q6, ls, hq6, hl, h1, rfl, rfl⟩
    simp! only []
    refine seq_step fun K2 kn2 kr2 kb2 kc2 => ?_
    simp! only []
    refine wF_imp (sp_draw hq6 (k := 6) (by omega) (by decide) (by decide)) ?_
    rintro _ _ ⟨q7, rfl, hq7, d7, rfl, d70, d71⟩
    obtain ⟨x, hx, hxe⟩ := atI_ok [PyData.int 17, .int 17, .int 16, .int 12, .int 5, .int 1] d7 d70 (by simpa using d71)
    obtain ⟨f, rfl, hf1, hf2⟩ : ∃ f : Nat, x = .int (f : Int) ∧ 1 ≤ f ∧ f ≤ 17 := by
      simp at hx
      rcases hx with rfl | rfl | rfl | rfl | rfl
      · exact ⟨17, rfl, by decide, by decide⟩
      · exact ⟨16, rfl, by decide, by decide⟩
      · exact ⟨12, rfl, by decide, by decide⟩
      · exact ⟨5, rfl, by decide, by decide⟩
      · exact ⟨1, rfl, by decide, by decide⟩
    simp! only [hxe]
    refine kn2 _ _ ?_
    clear kn2 kr2 kb2 kc2
    simp! only []
    refine wF_imp (sp_great (f := f) hq7 (by omega) rfl (by omega)) ?_
    rintro _ _ ⟨q8, rfl, hq8, g, rfl, g0, g1⟩
    have hpw : (10 : Int) ^ f ≤ 10 ^ 17 := by
      have := Nat.pow_le_pow_right (n := 10) (by decide) hf2
      exact_mod_cast this
    simp! only []
    refine ⟨by rw [List.length_map]; omega, q8, ls ++ [1 + g], hq8.mono (by omega), by simp; omega, fun l hl => ?_, by simp⟩
    rcases List.mem_append.mp hl with hl | hl
    · exact h1 l hl
    · simp at hl; omega
  rintro e m' ⟨q6, ls, hq6, hl, h1, rfl, rfl⟩
  simp! only []
  have hl2 : 2 ≤ ls.length ∧ ls.length ≤ 5 := by omega
  have hq6' : okP (n + 110) q6 := hq6.mono (by omega)
  refine kn _ _ ?_
  clear kn kr kb kc
  -- one length for all
  refine seq_step fun K kn kr kb kc => ?_
  simp! only [eqD_int]
  suffices key : ∀ (q7 : Pen) (ls2 : List Int), okP (n + 120) q7 → 2 ≤ ls2.length → ls2.length ≤ 5 → (∀ l ∈ ls2, 1 ≤ l ∧ l ≤ 100000000000000004) → K (.nx [some (.l 0), some (.d (.list (ls2.map PyData.int))), some (.d (.int kind)), none, none, none, none]) (penO q7 :: (R ++ [.gone])) by
    refine ifK_of (fun h => ?_) fun h => ?_
    · obtain ⟨l0, hl0⟩ : ∃ l0, L2.atI (ls.map PyData.int) 0 = some (.int l0) ∧ l0 ∈ ls := by
        obtain ⟨x, hx, hxe⟩ := atI_ok (ls.map PyData.int) 0 (by omega) (by rw [List.length_map]; omega)
        obtain ⟨l0, h0, rfl⟩ := List.mem_map.mp hx
        exact ⟨l0, hxe, h0⟩
      have hb0 := h1 l0 hl0.2
      refine wE_compY ((ls.map PyData.int).map EV.d) ?_ (fun rest acc m' => ∃ (q' : Pen) (l2 : List Int), okP (n + 110 + acc.length) q' ∧ rest.length + acc.length = ls.length ∧ acc = l2.map PyData.int ∧ (∀ l ∈ l2, 1 ≤ l ∧ l ≤ 100000000000000004) ∧ m' = penO q' :: (R ++ [.gone])) ?_ ?_ ?_
      · simp! only []
        exact fun _ => trivial
      · exact ⟨q6, [], by simpa using hq6', by simp, rfl, by simp, rfl⟩
      · rintro x rest acc m' ⟨q', l2, hq', hr, rfl, hb, rfl⟩ hml
        simp only [List.length_cons, List.length_map] at hr hq'
        simp! only [hl0.1]
        refine wF_imp (sp_draw hq' (k := 5) (by omega) (by decide) (by decide)) ?_
        rintro _ _ ⟨q2, rfl, hq2, d, rfl, d0, d1⟩
        simp! only []
        refine ⟨penO q2 :: (R ++ [.gone]), by simp, by simp, by rw [List.length_map]; omega, q2, l2 ++ [l0 + d], hq2.mono (by simp; omega), by simp; omega, by simp, fun l hl => ?_, rfl⟩
        rcases List.mem_append.mp hl with hl | hl
        · exact hb l hl
        · simp at hl; omega
      · rintro acc m' ⟨q', l2, hq', hr, rfl, hb, rfl⟩ _
        simp only [List.length_nil, List.length_map] at hr hq'
        exact key q' l2 (hq'.mono (by omega)) (by omega) (by omega) hb
    · exact key q6 ls (hq6'.mono (by omega)) hl2.1 hl2.2 fun l h => ⟨(h1 l h).1, by have := (h1 l h).2; omega⟩
  intro q7 ls2 hq7 l2 l5 hb
  refine kn _ _ ?_
  clear kn kr kb kc
  -- many short ones
  refine seq_step fun K kn kr kb kc => ?_
  simp! only [eqD_int]
  suffices key : ∀ (q8 : Pen) (ls3 : List Int), okP (n + 300) q8 → 2 ≤ ls3.length → ls3.length ≤ 13 → (∀ l ∈ ls3, 1 ≤ l ∧ l ≤ 100000000000000004) → K (.nx [some (.l 0), some (.d (.list (ls3.map PyData.int))), some (.d (.int kind)), none, none, none, none]) (penO q8 :: (R ++ [.gone])) by
    refine ifK_of (fun h => ?_) fun h => ?_
    · refine wE_compX (fun rest acc m' => ∃ (q' : Pen) (l2 : List Int), okP (n + 121 + 10 * acc.length) q' ∧ rest.length + acc.length ≤ 13 ∧ 2 ≤ rest.length + acc.length ∧ acc = l2.map PyData.int ∧ (∀ l ∈ l2, 1 ≤ l ∧ l ≤ 100000000000000004) ∧ m' = penO q' :: (R ++ [.gone])) ?_ ?_ ?_
      · simp! only []
        refine wF_imp (sp_draw hq7 (k := 8) (by omega) (by decide) (by decide)) ?_
        rintro _ _ ⟨q8, rfl, hq8, d, rfl, d0, d1⟩
        simp! only []
        exact ⟨by omega, fun _ => trivial, q8, [], hq8.mono (by simp), by simp [rgL]; omega, by simp [rgL]; omega, rfl, by simp, rfl⟩
      · rintro x rest acc m' ⟨q', l2, hq', hr, hr2, rfl, hb, rfl⟩ hml
        simp only [List.length_cons, List.length_map] at hr hr2 hq'
        simp! only []
        refine wF_imp (sp_draw hq' (k := 5) (by omega) (by decide) (by decide)) ?_
        rintro _ _ ⟨q2, rfl, hq2, d, rfl, d0, d1⟩
        simp! only []
        refine wF_imp (sp_great (f := (1 + d).toNat) hq2 (by omega) (by omega) (by omega)) ?_
        rintro _ _ ⟨q3, rfl, hq3, g, rfl, g0, g1⟩
        have hpw : (10 : Int) ^ (1 + d).toNat ≤ 10 ^ 5 := by
          have := Nat.pow_le_pow_right (n := 10) (by decide) (show (1 + d).toNat ≤ 5 by omega)
          exact_mod_cast this
        have E5 : (10 : Int) ^ 5 = 100000 := rfl
        simp! only []
        refine ⟨penO q3 :: (R ++ [.gone]), by simp, by simp, by rw [List.length_map]; omega, q3, l2 ++ [1 + g], hq3.mono (by simp; omega), by simp; omega, by simp; omega, by simp, fun l hl => ?_, rfl⟩
        rcases List.mem_append.mp hl with hl | hl
        · exact hb l hl
        · simp at hl; omega
      · rintro acc m' ⟨q', l2, hq', hr, hr2, rfl, hb, rfl⟩ _
        simp only [List.length_nil, List.length_map] at hr hr2 hq'
        exact key q' l2 (hq'.mono (by omega)) (by omega) (by omega) hb
    · exact key q7 ls2 (hq7.mono (by omega)) l2 (by omega) hb
  intro q8 ls3 hq8 l3 l4 hb3
  refine kn _ _ ?_
  clear kn kr kb kc
  -- the golden sort
  refine seq_step fun K kn kr kb kc => ?_
  simp! only [eqD_int]
  suffices key : ∀ (q9 : Pen) (ls4 : List Int), okP (n + 400) q9 → 2 ≤ ls4.length → ls4.length ≤ 13 → (∀ l ∈ ls4, 1 ≤ l) → ls4.sum ≤ 2000000000000000000 → K (.nx [some (.l 0), some (.d (.list (ls4.map PyData.int))), some (.d (.int kind)), none, none, none, none]) (penO q9 :: (R ++ [.gone])) by
    refine ifK_of (fun h => ?_) fun h => ?_
    · refine seq_step fun K2 kn2 kr2 kb2 kc2 => ?_
      simp! only []
      refine wF_imp (sp_draw hq8 (k := 9) (by omega) (by decide) (by decide)) ?_
      rintro _ _ ⟨q9, rfl, hq9, d9, rfl, d90, d91⟩
      simp! only []
      refine wF_imp (sp_draw hq9 (k := 9) (by omega) (by decide) (by decide)) ?_
      rintro _ _ ⟨q10, rfl, hq10, d10, rfl, d100, d101⟩
      try simp! only []
      refine kn2 _ _ ?_
      clear kn2 kr2 kb2 kc2
      refine seq_step fun K2 kn2 kr2 kb2 kc2 => ?_
      simp! only []
      refine wF_imp (sp_draw hq10 (k := 40) (by omega) (by decide) (by decide)) ?_
      rintro _ _ ⟨q11, rfl, hq11, d11, rfl, d110, d111⟩
      simp! only []
      refine ⟨by omega, ?_⟩
      refine for_rg 0 (fun i e m' => ∃ a b : Int, 1 ≤ a ∧ a ≤ (gold i.toNat).1 ∧ 1 ≤ b ∧ b ≤ (gold i.toNat).2 ∧ m' = penO q11 :: (R ++ [.gone]) ∧
        e = [some (.l 0), some (.d (.list (ls3.map PyData.int))), some (.d (.int kind)), none, none, some (.d (.int a)), some (.d (.int b))]) _ ?_ ?_ _ _ ⟨1 + d9, 1 + d10, by omega, ?_, by omega, ?_, rfl, rfl⟩
      · rintro i e m' i0 i1 ⟨a, b, a1, a2, b1, b2, rfl, rfl⟩
        have e1 : (i + 1).toNat = i.toNat + 1 := by omega
        simp! only []
        rw [e1]
        exact ⟨b, a + b, b1, b2, by omega, by show a + b ≤ (gold i.toNat).1 + (gold i.toNat).2; omega, rfl⟩
      · rintro e m' ⟨a, b, a1, a2, b1, b2, rfl, rfl⟩
        refine kn2 _ _ ?_
        clear kn2 kr2 kb2 kc2
        have hg := gold_le (0 + ((40 + d11).toNat : Int)).toNat (by omega)
        obtain ⟨ls4, h4⟩ : ∃ ls4, ls4 = (a :: b :: ls3).take ls3.length := ⟨_, rfl⟩
        have ec : (PyData.int a :: PyData.int b :: ls3.map PyData.int).take ls3.length = ls4.map PyData.int := by
          rw [h4, List.map_take]
          rfl
        have hs4 : ls4.sum ≤ 2000000000000000000 := by
          obtain ⟨k, hk⟩ : ∃ k, ls3.length = k + 2 := ⟨ls3.length - 2, by omega⟩
          rw [h4, hk, List.take_succ_cons, List.take_succ_cons, List.sum_cons, List.sum_cons]
          have h5 := sum_le (ls := ls3.take k) fun l hl => (hb3 l (List.mem_of_mem_take hl)).2
          have h6 : (ls3.take k).length ≤ 11 := by rw [List.length_take]; omega
          omega
        simp! only [slD, cut_to, List.length_map, ec]
        rw [if_pos (by omega)]
        refine key q11 ls4 (hq11.mono (by omega)) (by rw [h4]; simp; omega) (by rw [h4]; simp; omega) (fun l hl => ?_) hs4
        have hm := List.mem_of_mem_take (h4 ▸ hl)
        simp only [List.mem_cons] at hm
        rcases hm with rfl | rfl | hm
        · exact a1
        · exact b1
        · exact (hb3 l hm).1
      · show 1 + d9 ≤ 9
        omega
      · show 1 + d10 ≤ 9
        omega
    · have := sum_le (ls := ls3) fun l hl => (hb3 l hl).2
      refine key q8 ls3 (hq8.mono (by omega)) l3 (by omega) (fun l h => (hb3 l h).1) ?_
      omega
  intro q9 ls4 hq9 l5' l6 hb4 hs4
  refine kn _ _ ?_
  clear kn kr kb kc
  simp! only []
  refine wF_imp (sp_pieces_out hq9 (by omega) hb4 (by omega) (by omega) hs4) ?_
  rintro _ _ ⟨q10, rfl, hq10, ps, rfl, ho⟩
  simp! only []
  exact ⟨q10, by simp, hq10.mono (by omega), ps, rfl, ho⟩
end Lw
set_option Elab.async false
set_option linter.all false
set_option maxRecDepth 100000
set_option maxHeartbeats 4000000
namespace Lw
open PySem PySem.Spec PyProof.Rows DL L2
local macro_rules
  | `(tactic| simp! only [$ls,*]) => `(tactic| simp only [↓ifK_t, ↓ifK_f, gA0, gA1, gA2, gA3, sA0, sA1, sA2, sA3, tA0, tA1, tA9, mA0, mA1, List.append_assoc, List.length_append, Nat.add_assoc, Nat.add_zero, ↓strK_s, ↓gdK_d, ↓gdK_l, ↓wE_inC, ↓wE_ixC, ↓wE_getD, ↓wE_var, ↓wE_c, ↓wA_nil, ↓wA_cons, ↓wE_bin, ↓wE_binF, ↓wE_cb, c1_d, c1F_d, c2_d, c1_l, oV_d, oVF_d, oV_ld, oV_dl, oVF_ld, vw_l, vwO_lst, vwO_dct, ↓wB_of, ↓wB_tru, ↓wB_and, ↓wB_or, ↓wB_not, ↓boolK_b, ↓wE_and, ↓wE_or, ↓wE_not, ↓wE_if, ↓wE_isN, isnE, ↓wE_is, ↓wE_is2, ↓bK_b, ↓wE_chain, ↓wE_call, ↓wE_lst, ↓wE_tup, ↓wE_tupT, ↓wE_lstL, ↓wE_dct0, ↓wE_dctL, ↓seqK_l, ↓seqK_t, ↓wE_listL, ↓intK_i, ↓wE_lrg, ↓wE_neg, ↓datK_d, ↓plK_l, ↓lstK_l, ↓dctK_l, ↓wE_app, ↓wE_pop, ↓wE_get, ↓wS_put, ↓wS_setIx, ↓wO_no, ↓wO_yes, ↓wE_sl, ↓wE_rev, vw_d, ↓wE_frzO, ↓wE_fld, ↓insK_i, ↓wS_fldP, ↓wE_make, ↓wE_meth, ↓wS_nil, ↓wS_never, ↓wS_set, ↓wS_ex, ↓wS_ret, ↓wS_retN, ↓wS_if, ↓wS_bk, ↓wS_ct, ↓wS_w, wipeO_nx, wipeO_bk, wipeO_ct, wipeO_rt, wipeE_nil, wipeE_cons, ↓zK_nx, ↓zK_rt, ↓wS_z, zSlots_nil, zSlots_cons, zTo_l, zTo_d, zTo_n, ↓asgK_s, ↓wS_asg, gNm_is, gTpE_d, gTpE_t, setAllE_nil, setAllE_cons, ↓augK_i, ↓wS_aug, ↓l2K_i, ↓l3K_i, ↓wS_par, ↓wS_par3, ↓retD_nx, ↓retD_d, ↓retD_o, ↓retD_l, ↓wS_for, ↓wI_any, ↓wI_rg1, ↓wI_rg2, ↓oK_some, ↓oK_none, ↓oK_ite, asD, Option.map_some, Option.bind_some, List.set_cons_zero, List.set_cons_succ, List.getElem?_cons_zero, List.getElem?_cons_succ, List.map_cons, List.map_nil, List.replicate, List.cons_append, List.nil_append, List.length_cons, List.length_nil, Nat.reduceSub, Nat.reduceAdd, Nat.reduceLeDiff, Nat.reduceLT, reduceIte, Bool.false_eq_true, Bool.not_true, Bool.not_false, decide_eq_true_eq, Bool.not_eq_true', decide_eq_false_iff_not, true_and, and_true, sizeLine_eq, addD, subD, truD, ltD, leD, gtD, geD, cmpI, ixD, lenD, isT_int, isT_bool, isT_str, isT_list, isT_tuple, isT2, ty_int, ty_bool, ty_str, ty_list, ty_tuple, $ls,*])

/-! ### sums of pieces -/
theorem sp_law_total {ps : List Pc} {m : Mem} {Q : EV → Mem → Prop} (hl : ps.length ≤ 16777216) : wF m__law_total [.d (.list (ps.map pcD))] m Q ↔ Q (.d (.int (ps.map Pc.k).sum)) m := by
  refine wF_det ?_
  refine wF_fnD (b := b__law_total) (by simp only [List.length_cons, List.length_nil]) ?_
  unfold b__law_total
  simp only [List.map_cons, List.map_nil, List.replicate, Nat.reduceSub, List.cons_append, List.nil_append]
  simp! only []
  refine wE_map ps (EV.d ∘ pcD) (fun p => .int p.k) (by rw [sizeLine_eq]; exact hl) ?_ ?_ ?_
  · simp! only [List.map_map]
    exact fun _ => trivial
  · intro a ha M hM
    simp! only [Function.comp, pcD, at_1]
  · have e : (ps.map fun p => PyData.int p.k) = (ps.map Pc.k).map PyData.int := by rw [List.map_map]; rfl
    rw [e]
    simp! only [sumD_ints]
/-! ### lots -/
structure St where
  f : Int
  k : Int
def stD (s : St) : PyData := .tuple [.int s.f, .int s.k]
theorem allW_st (s : St) : allW 2 (stD s) = true := rfl
theorem okT_st (s : St) : okT (stD s) := by
  intro ds h
  cases h
  simp
def lotS (t : Int) : Int → List St → Bool
  | _, [] => true
  | e, s :: ss => decide (e ≤ s.f) && inB s.f s.k t && lotS t (s.f + s.k) ss
theorem lotG_st {t : Int} : ∀ {e : Int} {ss : List St}, lotG t e (ss.map stD) = lotS t e ss
  | e, [] => rfl
  | e, s :: ss => by
    have h : lotG t e (stD s :: ss.map stD) = (decide (e ≤ s.f) && inB s.f s.k t && lotG t (s.f + s.k) (ss.map stD)) := by
      simp only [stD, lotG]
      rfl
    rw [List.map_cons, h, lotG_st]
    rfl
theorem lotS_app {t : Int} : ∀ {ss : List St} {e a : Int} {s : St}, lotS t e ss = true → (∀ x ∈ ss, x.f + x.k ≤ a) → e ≤ a → a ≤ s.f → inB s.f s.k t = true → lotS t e (ss ++ [s]) = true
  | [], e, a, s, _, _, h1, h2, h3 => by simp [lotS, h3]; omega
  | x :: ss, e, a, s, h, hx, h1, h2, h3 => by
    simp only [lotS, Bool.and_eq_true, List.cons_append] at h ⊢
    exact ⟨h.1, lotS_app h.2 (fun y hy => hx y (List.mem_cons_of_mem _ hy)) (hx x (List.mem_cons_self ..)) h2 h3⟩
/-- whole numbers sorted -/
theorem sorted_ints (ns : List Int) : ∃ ms : List Int, sortedD (.list (ns.map PyData.int)) = some (.list (ms.map PyData.int)) ∧ ms.Perm ns ∧ ms.Pairwise (· ≤ ·) := by
  refine ⟨srtK (fun i => [i]) ns, by simp only [sortedD, asI_ints], srtK_perm ns, ?_⟩
  have := srtK_srt (k := fun i : Int => [i]) ns
  refine this.imp fun {a b} h => ?_
  by_cases h2 : b < a
  · have h3 : leL [a] [b] = false := by
      have : ¬ b = a := by omega
      simp [leL, lexL, h2, this]
    rw [h3] at h
    cases h
  · omega
theorem sp_law_lot {n : Nat} {t most : Int} {q : Pen} {R : Mem} (hq : okP n q) (hn : n + 1000 ≤ 1000000000) (ht : 0 ≤ t) (ht2 : t ≤ 2000000000000000000) (h1 : 1 ≤ most) (h5 : most ≤ 5) :
    wF m__law_lot [.l 0, .d (.int t), .d (.int most)] (penO q :: R) (PQ (n + 600) R fun r => ∃ ss : List St, r = .d (.list (ss.map stD)) ∧ lotS t 0 ss = true ∧ ss.length ≤ 5) := by
  refine wF_fnD (b := b__law_lot) (by simp only [List.length_cons, List.length_nil]) ?_
  unfold b__law_lot
  simp only [List.map_cons, List.map_nil, List.replicate, Nat.reduceSub, List.cons_append, List.nil_append]
  refine seq_step fun K kn kr kb kc => ?_
  simp! only []
  refine wF_imp (sp_draw hq (k := 12) (by omega) (by decide) (by decide)) ?_
  rintro _ _ ⟨q1, rfl, hq1, d1, rfl, d10, d11⟩
  simp! only [eqD_int]
  refine ifK_of (fun h => ?_) fun h => ?_
  · have none' : ∀ q2 : Pen, okP (n + 2) q2 → K (.rt (.d (.list []))) (penO q2 :: R) := fun q2 h2 => kr _ _ (by
      simp! only []
      exact ⟨q2, rfl, h2.mono (by omega), [], rfl, rfl, by simp⟩)
    refine ifK_of (fun h2 => ?_) fun h2 => ?_
    · refine wF_imp (sp_draw hq1 (k := 2) (by omega) (by decide) (by decide)) ?_
      rintro _ _ ⟨q2, rfl, hq2, d2, rfl, d20, d21⟩
      simp! only [eqD_int]
      have h3 := of_decide_eq_true h2
      refine ifK_of (fun h4 => ?_) fun h4 => ?_
      · refine kr _ _ ?_
        simp! only []
        refine ⟨q2, rfl, hq2.mono (by omega), [⟨0, t⟩], rfl, ?_, by simp⟩
        simp [lotS, inB]
        omega
      · exact none' q2 hq2
    · exact none' q1 (hq1.mono (by omega))
  refine kn _ _ ?_
  clear kn kr kb kc
  refine seq_step fun K kn kr kb kc => ?_
  simp! only [mulI (i := 2) (j := most) (by decide) (by omega)]
  have E40 : (10 : Int) ^ 40 = 10000000000000000000000000000000000000000 := rfl
  refine wE_compX (fun rest acc m' => ∃ (q' : Pen) (l2 : List Int), okP (n + 1 + 42 * acc.length) q' ∧ (rest.length + acc.length : Int) = 2 * most ∧ acc = l2.map PyData.int ∧ (∀ l ∈ l2, 0 ≤ l ∧ l ≤ t) ∧ m' = penO q' :: R) ?_ ?_ ?_
  · simp! only [mulI (i := 2) (j := most) (by decide) (by omega)]
    exact ⟨by omega, fun _ => trivial, q1, [], hq1.mono (by simp), by simp [rgL]; omega, rfl, by simp, rfl⟩
  · rintro x rest acc m' ⟨q', l2, hq', hr, rfl, hb, rfl⟩ hml
    simp only [List.length_cons, List.length_map] at hr hq'
    simp! only []
    refine wF_imp (sp_below hq' (k := t + 1) (by omega) (by omega) (by omega)) ?_
    rintro _ _ ⟨q2, rfl, hq2, d, rfl, d0, d1⟩
    simp! only []
    refine ⟨penO q2 :: R, by simp, by simp, by rw [List.length_map]; omega, q2, l2 ++ [d], hq2.mono (by simp; omega), by simp; omega, by simp, fun l hl => ?_, rfl⟩
    rcases List.mem_append.mp hl with hl | hl
    · exact hb l hl
    · simp at hl; omega
  rintro acc m' ⟨q2, l2, hq2, hr, rfl, hb, rfl⟩ _
  simp only [List.length_nil, List.length_map] at hr hq2
  obtain ⟨ms, hms, hmp, hmo⟩ := sorted_ints l2
  have hml := hmp.length_eq
  have hmb : ∀ l ∈ ms, 0 ≤ l ∧ l ≤ t := fun l hl => hb l (hmp.mem_iff.mp hl)
  simp! only [hms]
  refine kn _ _ ?_
  clear kn kr kb kc
  refine seq_step fun K kn kr kb kc => ?_
  simp! only []
  refine kn _ _ ?_
  clear kn kr kb kc
  refine seq_step fun K kn kr kb kc => ?_
  simp! only []
  refine ⟨by omega, ?_⟩
  refine for_rg 0 (fun i e m' => ∃ ss : List St, lotS t 0 ss = true ∧ ss.length ≤ i ∧ (∀ x ∈ ss, ∀ l, (∃ j : Nat, 2 * i ≤ j ∧ ms[j]? = some l) → x.f + x.k ≤ l) ∧ m' = penO q2 :: (R ++ [.lst (ss.map stD)]) ∧
    e = [some (.l 0), some (.d (.int t)), some (.d (.int most)), some (.d (.list (ms.map PyData.int))), some (.l (R.length + 1)), none]) _ ?_ ?_ _ _ ⟨[], rfl, by simp, by simp, rfl, rfl⟩
  · rintro i e m' i0 i1 ⟨ss, hs, hsl, hx, rfl, rfl⟩
    obtain ⟨k, rfl⟩ : ∃ k : Nat, i = k := ⟨i.toNat, by omega⟩
    have hk : 2 * k + 1 < ms.length := by omega
    have g0 := at_nth (ls := ms) (k := 2 * k) (by omega)
    have g1 := at_nth (ls := ms) (k := 2 * k + 1) hk
    push_cast at g0 g1
    simp! only [mulI (i := 2) (j := (k : Int)) (by decide) (by omega), g0, g1]
    have hnn : ∀ j, j < ms.length → ms[j]? = some (nth ms j) := fun j hj => by
      simp [nth, List.getD_eq_getElem?_getD, List.getElem?_eq_getElem hj]
    have hmono : ∀ (a b : Nat) (x y : Int), a < b → ms[a]? = some x → ms[b]? = some y → x ≤ y := fun a b x y hab ha hb2 => by
      obtain ⟨ha1, rfl⟩ := List.getElem?_eq_some_iff.mp ha
      obtain ⟨hb1, rfl⟩ := List.getElem?_eq_some_iff.mp hb2
      exact (List.pairwise_iff_getElem.mp hmo) a b ha1 hb1 hab
    have ha := hnn (2 * k) (by omega)
    have hb2 := hnn (2 * k + 1) hk
    have hx2 : ∀ x ∈ ss, ∀ l, (∃ j : Nat, 2 * ((k : Int) + 1) ≤ j ∧ ms[j]? = some l) → x.f + x.k ≤ l := fun x hxs l ⟨j, hj, hl⟩ => hx x hxs l ⟨j, by omega, hl⟩
    refine ifK_of (fun h => ?_) fun h => ?_
    · have h3 := of_decide_eq_true h
      have m0 := hmb _ (List.mem_of_getElem? ha)
      have m1 := hmb _ (List.mem_of_getElem? hb2)
      refine ⟨by rw [List.length_map]; omega, ss ++ [⟨nth ms (2 * k), nth ms (2 * k + 1) - nth ms (2 * k)⟩], ?_, by simp; omega, fun x hxs l hl => ?_, by simp [stD]⟩
      · refine lotS_app (a := nth ms (2 * k)) hs (fun x hxs => hx x hxs _ ⟨2 * k, by omega, ha⟩) m0.1 (Int.le_refl _) ?_
        simp only [inB, Bool.and_eq_true, decide_eq_true_eq]
        omega
      · rcases List.mem_append.mp hxs with hxs | hxs
        · exact hx2 x hxs l hl
        · simp only [List.mem_singleton] at hxs
          subst hxs
          obtain ⟨j, hj, hl⟩ := hl
          have := hmono (2 * k + 1) j _ _ (by omega) hb2 hl
          show nth ms (2 * k) + (nth ms (2 * k + 1) - nth ms (2 * k)) ≤ l
          omega
    · exact ⟨ss, hs, by omega, hx2, rfl⟩
  · rintro e m' ⟨ss, hs, hsl, hx, rfl, rfl⟩
    simp! only []
    refine kn _ _ ?_
    clear kn kr kb kc
    simp! only []
    exact ⟨q2, by simp, hq2.mono (by omega), ss, rfl, hs, by omega⟩
end Lw
set_option Elab.async false
set_option linter.all false
set_option maxRecDepth 100000
set_option maxHeartbeats 4000000
namespace Lw
open PySem PySem.Spec PyProof.Rows DL L2
local macro_rules
  | `(tactic| simp! only [$ls,*]) => `(tactic| simp only [↓ifK_t, ↓ifK_f, gA0, gA1, gA2, gA3, sA0, sA1, sA2, sA3, tA0, tA1, tA9, mA0, mA1, List.append_assoc, List.length_append, Nat.add_assoc, Nat.add_zero, ↓strK_s, ↓gdK_d, ↓gdK_l, ↓wE_inC, ↓wE_ixC, ↓wE_getD, ↓wE_var, ↓wE_c, ↓wA_nil, ↓wA_cons, ↓wE_bin, ↓wE_binF, ↓wE_cb, c1_d, c1F_d, c2_d, c1_l, oV_d, oVF_d, oV_ld, oV_dl, oVF_ld, vw_l, vwO_lst, vwO_dct, ↓wB_of, ↓wB_tru, ↓wB_and, ↓wB_or, ↓wB_not, ↓boolK_b, ↓wE_and, ↓wE_or, ↓wE_not, ↓wE_if, ↓wE_isN, isnE, ↓wE_is, ↓wE_is2, ↓bK_b, ↓wE_chain, ↓wE_call, ↓wE_lst, ↓wE_tup, ↓wE_tupT, ↓wE_lstL, ↓wE_dct0, ↓wE_dctL, ↓seqK_l, ↓seqK_t, ↓wE_listL, ↓intK_i, ↓wE_lrg, ↓wE_neg, ↓datK_d, ↓plK_l, ↓lstK_l, ↓dctK_l, ↓wE_app, ↓wE_pop, ↓wE_get, ↓wS_put, ↓wS_setIx, ↓wO_no, ↓wO_yes, ↓wE_sl, ↓wE_rev, vw_d, ↓wE_frzO, ↓wE_fld, ↓insK_i, ↓wS_fldP, ↓wE_make, ↓wE_meth, ↓wS_nil, ↓wS_never, ↓wS_set, ↓wS_ex, ↓wS_ret, ↓wS_retN, ↓wS_if, ↓wS_bk, ↓wS_ct, ↓wS_w, wipeO_nx, wipeO_bk, wipeO_ct, wipeO_rt, wipeE_nil, wipeE_cons, ↓zK_nx, ↓zK_rt, ↓wS_z, zSlots_nil, zSlots_cons, zTo_l, zTo_d, zTo_n, ↓asgK_s, ↓wS_asg, gNm_is, gTpE_d, gTpE_t, setAllE_nil, setAllE_cons, ↓augK_i, ↓wS_aug, ↓l2K_i, ↓l3K_i, ↓wS_par, ↓wS_par3, ↓retD_nx, ↓retD_d, ↓retD_o, ↓retD_l, ↓wS_for, ↓wI_any, ↓wI_rg1, ↓wI_rg2, ↓oK_some, ↓oK_none, ↓oK_ite, asD, Option.map_some, Option.bind_some, List.set_cons_zero, List.set_cons_succ, List.getElem?_cons_zero, List.getElem?_cons_succ, List.map_cons, List.map_nil, List.replicate, List.cons_append, List.nil_append, List.length_cons, List.length_nil, Nat.reduceSub, Nat.reduceAdd, Nat.reduceLeDiff, Nat.reduceLT, reduceIte, Bool.false_eq_true, Bool.not_true, Bool.not_false, decide_eq_true_eq, Bool.not_eq_true', decide_eq_false_iff_not, true_and, and_true, sizeLine_eq, addD, subD, truD, ltD, leD, gtD, geD, cmpI, ixD, lenD, isT_int, isT_bool, isT_str, isT_list, isT_tuple, isT2, ty_int, ty_bool, ty_str, ty_list, ty_tuple, $ls,*])

/-- things that can be shown, so deep, so many -/
structure Gd (d b : Nat) (x : PyData) : Prop where
  sh : x.showable = true
  lf : x.leavesShort 64 = true
  dp : x.depth ≤ d
  bk : x.bulk ≤ b
theorem Gd.mono {d b d2 b2 : Nat} {x : PyData} (h : Gd d b x) (h1 : d ≤ d2) (h2 : b ≤ b2) : Gd d2 b2 x := ⟨h.sh, h.lf, Nat.le_trans h.dp h1, Nat.le_trans h.bk h2⟩
theorem gd_none : Gd 0 0 .none := ⟨rfl, rfl, Nat.le_refl _, Nat.le_refl _⟩
theorem gd_bool (b : Bool) : Gd 0 0 (.bool b) := ⟨rfl, rfl, Nat.le_refl _, Nat.le_refl _⟩
theorem gd_int {i : Int} (h : i.natAbs < 10 ^ 50) : Gd 0 0 (.int i) := by
  refine ⟨?_, ?_, Nat.le_refl _, Nat.le_refl _⟩
  · have B : (10 : Nat) ^ 50 < 2 ^ 200 := by decide +kernel
    have := log2_small (i := i.natAbs) (by omega)
    simp only [PyData.showable, decide_eq_true_eq]
    omega
  · have := int_text_length_le10 (a := i) (k := 50) (by decide) h
    simp only [PyData.leavesShort, decide_eq_true_eq]
    show (Str.ofString (toString i)).length ≤ 64
    rw [PySem.ofString_length]
    omega
theorem sh_all : ∀ {xs : List PyData}, (∀ x ∈ xs, x.showable = true) → PyData.showableAll xs = true
  | [], _ => rfl
  | x :: xs, h => by
    simp only [PyData.showableAll, Bool.and_eq_true]
    exact ⟨h x (List.mem_cons_self ..), sh_all fun y hy => h y (List.mem_cons_of_mem _ hy)⟩
theorem lf_all : ∀ {xs : List PyData}, (∀ x ∈ xs, x.leavesShort 64 = true) → PyData.leavesShortAll 64 xs = true
  | [], _ => rfl
  | x :: xs, h => by
    simp only [PyData.leavesShortAll, Bool.and_eq_true]
    exact ⟨h x (List.mem_cons_self ..), lf_all fun y hy => h y (List.mem_cons_of_mem _ hy)⟩
theorem dp_all {d : Nat} : ∀ {xs : List PyData}, (∀ x ∈ xs, x.depth ≤ d) → PyData.depthAll xs ≤ d
  | [], _ => Nat.zero_le _
  | x :: xs, h => by
    simp only [PyData.depthAll]
    exact Nat.max_le.mpr ⟨h x (List.mem_cons_self ..), dp_all fun y hy => h y (List.mem_cons_of_mem _ hy)⟩
theorem bk_all {b : Nat} : ∀ {xs : List PyData}, (∀ x ∈ xs, x.bulk ≤ b) → PyData.bulkAll xs ≤ xs.length * (b + 1)
  | [], _ => Nat.zero_le _
  | x :: xs, h => by
    have h1 := h x (List.mem_cons_self ..)
    have h2 := bk_all fun y hy => h y (List.mem_cons_of_mem _ hy)
    simp only [PyData.bulkAll, List.length_cons, Nat.succ_mul]
    omega
theorem gd_list {d b n : Nat} {xs : List PyData} (h : ∀ x ∈ xs, Gd d b x) (hl : xs.length ≤ n) : Gd (d + 1) (n * (b + 1)) (.list xs) :=
  ⟨sh_all fun x hx => (h x hx).sh, lf_all fun x hx => (h x hx).lf, Nat.succ_le_succ (dp_all fun x hx => (h x hx).dp), Nat.le_trans (bk_all fun x hx => (h x hx).bk) (Nat.mul_le_mul_right _ hl)⟩
theorem gd_tup {d b n : Nat} {xs : List PyData} (h : ∀ x ∈ xs, Gd d b x) (hl : xs.length ≤ n) : Gd (d + 1) (n * (b + 1)) (.tuple xs) :=
  ⟨sh_all fun x hx => (h x hx).sh, lf_all fun x hx => (h x hx).lf, Nat.succ_le_succ (dp_all fun x hx => (h x hx).dp), Nat.le_trans (bk_all fun x hx => (h x hx).bk) (Nat.mul_le_mul_right _ hl)⟩
theorem bulk_len : ∀ xs : List PyData, xs.length ≤ PyData.bulkAll xs
  | [] => Nat.zero_le _
  | x :: xs => by
    have := bulk_len xs
    simp only [PyData.bulkAll, List.length_cons]
    omega
theorem bulk_mem : ∀ {xs : List PyData} {x : PyData}, x ∈ xs → x.bulk ≤ PyData.bulkAll xs
  | y :: xs, x, h => by
    simp only [PyData.bulkAll]
    rcases List.mem_cons.mp h with rfl | h
    · omega
    · have := bulk_mem h; omega
theorem Gd.okT {d b : Nat} {x : PyData} (h : Gd d b x) (hb : b ≤ 200000) : okT x := by
  rintro ds rfl
  have h1 := h.bk
  have h2 := bulk_len ds
  simp only [PyData.bulk] at h1
  omega
theorem Gd.okL {d b : Nat} {x : PyData} (h : Gd d b x) (hb : b ≤ 200000) : okL x := by
  cases x with
  | list ds | tuple ds =>
    have h1 := h.bk
    have h2 := bulk_len ds
    simp only [PyData.bulk] at h1
    refine ⟨by omega, fun y hy ys e => ?_⟩
    subst e
    have h3 := bulk_mem hy
    have h4 := bulk_len ys
    simp only [PyData.bulk] at h3
    omega
  | _ => trivial
theorem Gd.repr {d b : Nat} {x : PyData} (h : Gd d b x) (hd : d ≤ 64) (hb : b ≤ 200000) : reprA x = some (.str x.shown) := by
  have h1 := PyData.shown_le_bulk 64 (by decide) x h.lf
  have h2 := h.bk
  have h3 : x.shown.length ≤ sizeLine := by rw [sizeLine_eq]; omega
  have h4 : shortI x = true := by
    cases x <;> first | rfl | (have := h.sh; simp only [PyData.showable] at this; exact this)
  simp only [reprA, h.sh, h3, h4, true_and, and_true, show x.depth ≤ 64 from Nat.le_trans h.dp hd, if_true]
def odds : List PyData := [.none, .bool true, .bool false, .int 0, .int 1, .int (-1), .int 2, .int (10 ^ 30), .str "", .str "piece", .str "then", .str "x", .tuple [], .list [], .dict [], .tuple [.int 0], .list [.int 0, .int 1], .tuple [.int 0, .int 1], .str "1"] ++ [.tuple [.str "piece"], .list [.str "piece"], .tuple [.bool true, .int 1], .dict [(.str "piece", .int 1)], .tuple [.tuple [], .tuple []], .list [.list []]]
def gdB (d b : Nat) (x : PyData) : Bool := x.showable && x.leavesShort 64 && decide (x.depth ≤ d) && decide (x.bulk ≤ b)
theorem gd_of {d b : Nat} {x : PyData} (h : gdB d b x = true) : Gd d b x := by
  simp only [gdB, Bool.and_eq_true, decide_eq_true_eq] at h
  exact ⟨h.1.1.1, h.1.1.2, h.1.2, h.2⟩
theorem gd_odds : ∀ x ∈ odds, Gd 3 30 x := by
  have h : odds.all (gdB 3 30) = true := by decide +kernel
  exact fun x hx => gd_of (List.all_eq_true.mp h x hx)
theorem wE_dct1 {s : Str} {x : PyData} {e : Env'} {m : Mem} {Q : EV → Mem → Prop} : DL.wE (eFrz (eDct [(s, eC x)])) e m Q ↔ Q (.d (.dict [(.str s, x)])) m := by
  have h : eFrz (eDct [(s, eC x)]) e m = some (.d (.dict [(.str s, x)]), m) := by
    simp [eFrz, eDct, mPairs, eC, vw, putP, kvD, keyD]
  unfold DL.wE
  rw [h]
  exact Iff.rfl
theorem pw30 : powD (.int 10) (.int 30) = some (.int (10 ^ 30)) := powI (k := 30) (by decide) (by decide)
theorem sp_law_odd {n : Nat} {q : Pen} {R : Mem} (hq : okP n q) (hn : n ≤ 1000000000) : wF m__law_odd [.l 0] (penO q :: R) (PQ (n + 1) R fun r => ∃ x, r = .d x ∧ Gd 3 30 x) := by
  refine wF_fnD (b := b__law_odd) (by simp only [List.length_cons, List.length_nil]) ?_
  unfold b__law_odd
  simp only [List.map_cons, List.map_nil, List.replicate, Nat.reduceSub, List.cons_append, List.nil_append]
  refine seq_step fun K kn kr kb kc => ?_
  simp! only [pw30]
  refine kn _ _ ?_
  clear kn kr kb kc
  simp! only [↓wE_dct1]
  refine wF_imp (sp_pick (xs := odds) hq hn (by simp [odds]) (by decide)) ?_
  rintro _ _ ⟨q1, rfl, hq1, x, hx, rfl⟩
  simp! only []
  exact ⟨q1, rfl, hq1, x, rfl, gd_odds x hx⟩
end Lw
set_option Elab.async false
set_option linter.all false
set_option maxRecDepth 100000
set_option maxHeartbeats 4000000
namespace Lw
open PySem PySem.Spec PyProof.Rows DL L2
local macro_rules
  | `(tactic| simp! only [$ls,*]) => `(tactic| simp only [↓ifK_t, ↓ifK_f, gA0, gA1, gA2, gA3, sA0, sA1, sA2, sA3, tA0, tA1, tA9, mA0, mA1, List.append_assoc, List.length_append, Nat.add_assoc, Nat.add_zero, ↓strK_s, ↓gdK_d, ↓gdK_l, ↓wE_inC, ↓wE_ixC, ↓wE_getD, ↓wE_var, ↓wE_c, ↓wA_nil, ↓wA_cons, ↓wE_bin, ↓wE_binF, ↓wE_cb, c1_d, c1F_d, c2_d, c1_l, oV_d, oVF_d, oV_ld, oV_dl, oVF_ld, vw_l, vwO_lst, vwO_dct, ↓wB_of, ↓wB_tru, ↓wB_and, ↓wB_or, ↓wB_not, ↓boolK_b, ↓wE_and, ↓wE_or, ↓wE_not, ↓wE_if, ↓wE_isN, isnE, ↓wE_is, ↓wE_is2, ↓bK_b, ↓wE_chain, ↓wE_call, ↓wE_lst, ↓wE_tup, ↓wE_tupT, ↓wE_lstL, ↓wE_dct0, ↓wE_dctL, ↓seqK_l, ↓seqK_t, ↓wE_listL, ↓intK_i, ↓wE_lrg, ↓wE_neg, ↓datK_d, ↓plK_l, ↓lstK_l, ↓dctK_l, ↓wE_app, ↓wE_pop, ↓wE_get, ↓wS_put, ↓wS_setIx, ↓wO_no, ↓wO_yes, ↓wE_sl, ↓wE_rev, vw_d, ↓wE_frzO, ↓wE_fld, ↓insK_i, ↓wS_fldP, ↓wE_make, ↓wE_meth, ↓wS_nil, ↓wS_never, ↓wS_set, ↓wS_ex, ↓wS_ret, ↓wS_retN, ↓wS_if, ↓wS_bk, ↓wS_ct, ↓wS_w, wipeO_nx, wipeO_bk, wipeO_ct, wipeO_rt, wipeE_nil, wipeE_cons, ↓zK_nx, ↓zK_rt, ↓wS_z, zSlots_nil, zSlots_cons, zTo_l, zTo_d, zTo_n, ↓asgK_s, ↓wS_asg, gNm_is, gTpE_d, gTpE_t, setAllE_nil, setAllE_cons, ↓augK_i, ↓wS_aug, ↓l2K_i, ↓l3K_i, ↓wS_par, ↓wS_par3, ↓retD_nx, ↓retD_d, ↓retD_o, ↓retD_l, ↓wS_for, ↓wI_any, ↓wI_rg1, ↓wI_rg2, ↓oK_some, ↓oK_none, ↓oK_ite, asD, Option.map_some, Option.bind_some, List.set_cons_zero, List.set_cons_succ, List.getElem?_cons_zero, List.getElem?_cons_succ, List.map_cons, List.map_nil, List.replicate, List.cons_append, List.nil_append, List.length_cons, List.length_nil, Nat.reduceSub, Nat.reduceAdd, Nat.reduceLeDiff, Nat.reduceLT, reduceIte, Bool.false_eq_true, Bool.not_true, Bool.not_false, decide_eq_true_eq, Bool.not_eq_true', decide_eq_false_iff_not, true_and, and_true, sizeLine_eq, addD, subD, truD, ltD, leD, gtD, geD, cmpI, ixD, lenD, isT_int, isT_bool, isT_str, isT_list, isT_tuple, isT2, ty_int, ty_bool, ty_str, ty_list, ty_tuple, $ls,*])

theorem cut_mem {α : Type} {xs : List α} {lo hi : Option Int} {y : α} (h : y ∈ DL.cutD xs lo hi) : y ∈ xs := by
  unfold DL.cutD at h
  exact List.mem_of_mem_drop (List.mem_of_mem_take h)
theorem cut_len {α : Type} (xs : List α) (lo hi : Option Int) : (DL.cutD xs lo hi).length ≤ xs.length := by
  unfold DL.cutD
  rw [List.length_take, List.length_drop]
  omega
abbrev N30 (i : Int) : Prop := i.natAbs < 10 ^ 30
theorem N30.gd {i : Int} (h : N30 i) : Gd 0 0 (.int i) := gd_int (by have : (10 : Nat) ^ 30 < 10 ^ 50 := by decide +kernel
                                                                     omega)
theorem gd_str {s : Str} (h : s.length ≤ 60) (h2 : ∀ c ∈ s.cps.toList, c < 16 ^ 8) : Gd 0 60 (.str s) := by
  refine ⟨rfl, ?_, Nat.le_refl _, ?_⟩
  · simp only [PyData.leavesShort, List.all_eq_true, decide_eq_true_eq]
    exact h2
  · show s.cps.size ≤ 60
    exact h
theorem gd_strI {i : Int} (h : N30 i) : ∃ x, strI (.int i) = some x ∧ Gd 0 60 x := by
  have h1 : i.natAbs.log2 < 1920 := by
    have B : (10 : Nat) ^ 30 < 2 ^ 200 := by decide +kernel
    have := log2_small (i := i.natAbs) (by omega)
    omega
  refine ⟨.str (Str.ofString (toString i)), by simp only [strI, if_pos h1], gd_str ?_ fun c hc => ?_⟩
  · have := int_text_length_le10 (a := i) (k := 30) (by decide) h
    rw [PySem.ofString_length]
    omega
  · rw [Str.ofString_eq_toList] at hc
    simp only [List.mem_map] at hc
    obtain ⟨ch, _, rfl⟩ := hc
    have := ch.valid
    have h3 : ch.toNat < 1114112 := by
      have := ch.valid
      show ch.val.toNat < 1114112
      rcases this with h | h
      · have : ch.val.toNat < 55296 := h
        omega
      · exact h.2
    have : (16 : Nat) ^ 8 = 4294967296 := rfl
    omega
theorem mulI30 {i j : Int} (hi : i.natAbs < 10 ^ 40) (hj : j.natAbs < 10 ^ 40) : mulD' (.int i) (.int j) = some (.int (i * j)) := by
  have B : (10 : Nat) ^ 40 < 2 ^ 200 := by decide +kernel
  exact mulI (by omega) (by omega)
theorem sp_law_bent_tuple {n : Nat} {a b c d : Int} {q : Pen} {R : Mem} (hq : okP n q) (hn : n + 100 ≤ 1000000000) (ha : N30 a) (hb : N30 b) (hc : N30 c) (hd : N30 d) :
    wF m__law_bent_tuple [.l 0, .d (stD ⟨a, b⟩), .d (stD ⟨c, d⟩)] (penO q :: R) (PQ (n + 10) R fun r => ∃ x, r = .d x ∧ Gd 4 400 x) := by
  have B1 : (10 : Nat) ^ 30 = 1000000000000000000000000000000 := rfl
  have B2 : (10 : Nat) ^ 50 = 100000000000000000000000000000000000000000000000000 := rfl
  have B3 : (10 : Nat) ^ 40 = 10000000000000000000000000000000000000000 := rfl
  unfold N30 at ha hb hc hd
  refine wF_fnD (b := b__law_bent_tuple) (by simp only [List.length_cons, List.length_nil]) ?_
  unfold b__law_bent_tuple
  simp only [List.map_cons, List.map_nil, List.replicate, Nat.reduceSub, List.cons_append, List.nil_append]
  simp only [stD]
  refine seq_step fun K kn kr kb kc => ?_
  simp! only []
  refine wF_imp (sp_draw hq (k := 2) (by omega) (by decide) (by decide)) ?_
  rintro _ _ ⟨q1, rfl, hq1, at1, rfl, a0, a1⟩
  try simp! only []
  refine wF_imp (sp_draw hq1 (k := 12) (by omega) (by decide) (by decide)) ?_
  rintro _ _ ⟨q2, rfl, hq2, way, rfl, w0, w1⟩
  try simp! only []
  refine kn _ _ ?_
  clear kn kr kb kc
  obtain ⟨x, hx, hxe⟩ := atI_ok [PyData.int a, .int b] at1 a0 (by simpa using a1)
  obtain ⟨v, rfl, hv⟩ : ∃ v : Int, x = .int v ∧ v.natAbs < 10 ^ 30 := by
    simp at hx
    rcases hx with rfl | rfl
    · exact ⟨a, rfl, ha⟩
    · exact ⟨b, rfl, hb⟩
  refine seq_step fun K kn kr kb kc => ?_
  simp! only [hxe]
  refine kn _ _ ?_
  clear kn kr kb kc
  refine seq_step fun K kn kr kb kc => ?_
  have key : ∀ (q3 : Pen) (y : PyData), okP (n + 8) q3 → Gd 3 60 y → K (.nx [some (.l 0), some (.d (.tuple [.int a, .int b])), some (.d (.tuple [.int c, .int d])), some (.d (.int at1)), some (.d (.int way)), some (.d y)]) (penO q3 :: R) := by
    intro q3 y hq3 hy
    refine kn _ _ ?_
    clear kn kr kb kc
    have c1 := cut_len [PyData.int a, .int b] none (some at1)
    have c2 := cut_len [PyData.int a, .int b] (some (at1 + 1)) none
    simp only [List.length_cons, List.length_nil] at c1 c2
    simp! only [slD]
    rw [if_pos (by omega)]
    rw [if_pos (by omega)]
    refine ⟨q3, rfl, hq3.mono (by omega), _, rfl, (gd_tup (d := 3) (b := 60) (n := 5) (fun z hz => ?_) ?_).mono (by omega) (by omega)⟩
    · have row : ∀ z ∈ [PyData.int a, .int b], Gd 3 60 z := by
        intro z hz
        simp at hz
        rcases hz with rfl | rfl
        · exact (N30.gd ha).mono (by omega) (by omega)
        · exact (N30.gd hb).mono (by omega) (by omega)
      rcases List.mem_append.mp hz with hz | hz
      · exact row z (cut_mem hz)
      · rcases List.mem_cons.mp hz with rfl | hz
        · exact hy
        · exact row z (cut_mem hz)
    · simp only [List.length_append, List.length_cons]
      omega
  have ret : ∀ (q3 : Pen) (y : PyData), okP (n + 8) q3 → Gd 4 400 y → K (.rt (.d y)) (penO q3 :: R) := by
    intro q3 y hq3 hy
    refine kr _ _ ?_
    simp! only []
    exact ⟨q3, rfl, hq3.mono (by omega), y, rfl, hy⟩
  clear kn kr kb kc
  have vgd : ∀ w : Int, w.natAbs < 10 ^ 50 → Gd 3 60 (.int w) := fun w hw => (gd_int hw).mono (by omega) (by omega)
  simp! only []
  refine ifK_of (fun h => ?_) fun h => ?_
  · have h6 := of_decide_eq_true h
    simp! only [mulI30 (i := 2) (j := v) (by decide) (by omega)]
    obtain ⟨y, hy, hye⟩ := atI_ok [PyData.int (v + 1), .int (v - 1), .int (0 - v), .int (v + 1), .int (v - 1), .int (2 * v)] way w0 (by simpa using h6)
    simp! only [hye]
    refine key q2 y (hq2.mono (by omega)) ?_
    simp at hy
    rcases hy with rfl | rfl | rfl | rfl | rfl | rfl <;> exact vgd _ (by omega)
  · refine ifK_of (fun h2 => ?_) fun h2 => ?_
    · refine wF_imp (sp_draw hq2 (k := ((4 : Nat) : Int)) (by omega) (by decide) (by decide)) ?_
      rintro _ _ ⟨q3, rfl, hq3, i, rfl, i0, i1⟩
      obtain ⟨y, hy, hye⟩ := atI_ok [PyData.int c, .int d, .int a, .int b] i i0 (by simpa using i1)
      simp! only [hye]
      refine key q3 y (hq3.mono (by omega)) ?_
      simp at hy
      rcases hy with rfl | rfl | rfl | rfl <;> exact vgd _ (by omega)
    · have c1 := cut_len [PyData.int a, .int b] none (some at1)
      have c2 := cut_len [PyData.int a, .int b] (some (at1 + 1)) none
      have c3 := cut_len [PyData.int a, .int b] (some at1) none
      simp only [List.length_cons, List.length_nil] at c1 c2 c3
      have row : ∀ z ∈ [PyData.int a, .int b], Gd 3 60 z := by
        intro z hz
        simp at hz
        rcases hz with rfl | rfl <;> exact vgd _ (by omega)
      simp only [eqD_int]
      refine ifK_of (fun h3 => ?_) fun h3 => ?_
      · simp! only [slD]
        rw [if_pos (by omega), if_pos (by omega)]
        try simp! only []
        refine wF_imp (sp_pick hq2 (by omega) (by simp) (by simp)) ?_
        rintro _ _ ⟨q3, rfl, hq3, y, hy, rfl⟩
        refine ret q3 y (hq3.mono (by omega)) ?_
        simp only [List.mem_cons, List.not_mem_nil, or_false] at hy
        rcases hy with rfl | rfl | rfl
        · refine (gd_tup (d := 3) (b := 60) (n := 4) (fun z hz => ?_) (by simp only [List.length_append]; omega)).mono (by omega) (by omega)
          rcases List.mem_append.mp hz with hz | hz <;> exact row z (cut_mem hz)
        · refine (gd_tup (d := 3) (b := 60) (n := 4) (fun z hz => ?_) (by simp only [List.length_cons]; omega)).mono (by omega) (by omega)
          rcases List.mem_cons.mp hz with rfl | hz
          · exact row _ (by simp)
          rcases List.mem_cons.mp hz with rfl | hz
          · exact row _ (by simp)
          exact row z (cut_mem hz)
        · exact (gd_list (d := 3) (b := 60) (n := 4) row (by simp)).mono (by omega) (by omega)
      · refine wF_imp (sp_law_odd hq2 (by omega)) ?_
        rintro _ _ ⟨q3, rfl, hq3, y, rfl, hy⟩
        obtain ⟨s, hs, hsg⟩ := gd_strI (i := v) hv
        simp! only [hs]
        refine wF_imp (sp_pick hq3 (by omega) (by simp) (by simp)) ?_
        rintro _ _ ⟨q4, rfl, hq4, z, hz, rfl⟩
        refine key q4 z (hq4.mono (by omega)) ?_
        simp only [List.mem_cons, List.not_mem_nil, or_false] at hz
        rcases hz with rfl | rfl | rfl
        · exact hy.mono (by omega) (by omega)
        · exact (gd_bool _).mono (by omega) (by omega)
        · exact hsg.mono (by omega) (by omega)
end Lw
set_option Elab.async false
set_option linter.all false
set_option maxRecDepth 100000
set_option maxHeartbeats 4000000
namespace Lw
open PySem PySem.Spec PyProof.Rows DL L2
local macro_rules
  | `(tactic| simp! only [$ls,*]) => `(tactic| simp only [↓ifK_t, ↓ifK_f, gA0, gA1, gA2, gA3, sA0, sA1, sA2, sA3, tA0, tA1, tA9, mA0, mA1, List.append_assoc, List.length_append, Nat.add_assoc, Nat.add_zero, ↓strK_s, ↓gdK_d, ↓gdK_l, ↓wE_inC, ↓wE_ixC, ↓wE_getD, ↓wE_var, ↓wE_c, ↓wA_nil, ↓wA_cons, ↓wE_bin, ↓wE_binF, ↓wE_cb, c1_d, c1F_d, c2_d, c1_l, oV_d, oVF_d, oV_ld, oV_dl, oVF_ld, vw_l, vwO_lst, vwO_dct, ↓wB_of, ↓wB_tru, ↓wB_and, ↓wB_or, ↓wB_not, ↓boolK_b, ↓wE_and, ↓wE_or, ↓wE_not, ↓wE_if, ↓wE_isN, isnE, ↓wE_is, ↓wE_is2, ↓bK_b, ↓wE_chain, ↓wE_call, ↓wE_lst, ↓wE_tup, ↓wE_tupT, ↓wE_lstL, ↓wE_dct0, ↓wE_dctL, ↓seqK_l, ↓seqK_t, ↓wE_listL, ↓intK_i, ↓wE_lrg, ↓wE_neg, ↓datK_d, ↓plK_l, ↓lstK_l, ↓dctK_l, ↓wE_app, ↓wE_pop, ↓wE_get, ↓wS_put, ↓wS_setIx, ↓wO_no, ↓wO_yes, ↓wE_sl, ↓wE_rev, vw_d, ↓wE_frzO, ↓wE_fld, ↓insK_i, ↓wS_fldP, ↓wE_make, ↓wE_meth, ↓wS_nil, ↓wS_never, ↓wS_set, ↓wS_ex, ↓wS_ret, ↓wS_retN, ↓wS_if, ↓wS_bk, ↓wS_ct, ↓wS_w, wipeO_nx, wipeO_bk, wipeO_ct, wipeO_rt, wipeE_nil, wipeE_cons, ↓zK_nx, ↓zK_rt, ↓wS_z, zSlots_nil, zSlots_cons, zTo_l, zTo_d, zTo_n, ↓asgK_s, ↓wS_asg, gNm_is, gTpE_d, gTpE_t, setAllE_nil, setAllE_cons, ↓augK_i, ↓wS_aug, ↓l2K_i, ↓l3K_i, ↓wS_par, ↓wS_par3, ↓retD_nx, ↓retD_d, ↓retD_o, ↓retD_l, ↓wS_for, ↓wI_any, ↓wI_rg1, ↓wI_rg2, ↓oK_some, ↓oK_none, ↓oK_ite, asD, Option.map_some, Option.bind_some, List.set_cons_zero, List.set_cons_succ, List.getElem?_cons_zero, List.getElem?_cons_succ, List.map_cons, List.map_nil, List.replicate, List.cons_append, List.nil_append, List.length_cons, List.length_nil, Nat.reduceSub, Nat.reduceAdd, Nat.reduceLeDiff, Nat.reduceLT, reduceIte, Bool.false_eq_true, Bool.not_true, Bool.not_false, decide_eq_true_eq, Bool.not_eq_true', decide_eq_false_iff_not, true_and, and_true, sizeLine_eq, addD, subD, truD, ltD, leD, gtD, geD, cmpI, ixD, lenD, isT_int, isT_bool, isT_str, isT_list, isT_tuple, isT2, ty_int, ty_bool, ty_str, ty_list, ty_tuple, $ls,*])

/-- a stretch of small numbers -/
def IsSt (z : PyData) : Prop := ∃ s : St, z = stD s ∧ N30 s.f ∧ N30 s.k
theorem IsSt.gd {z : PyData} (h : IsSt z) : Gd 1 2 z := by
  obtain ⟨s, rfl, h1, h2⟩ := h
  refine (gd_tup (d := 0) (b := 0) (n := 2) (fun y hy => ?_) (by simp)).mono (by omega) (by omega)
  simp only [List.mem_cons, List.not_mem_nil, or_false] at hy
  rcases hy with rfl | rfl
  · exact N30.gd h1
  · exact N30.gd h2
abbrev Bent (r : EV) : Prop := ∃ x, r = .d x ∧ Gd 5 10000 x
theorem bent_list {zs : List PyData} (h : ∀ z ∈ zs, Gd 4 400 z) (hl : zs.length ≤ 20) : Gd 5 10000 (.list zs) := (gd_list h hl).mono (by omega) (by omega)
theorem add_ll {xs ys : List PyData} (h : xs.length + ys.length ≤ 1000) : addD (.list xs) (.list ys) = some (.list (xs ++ ys)) := by
  simp only [addD]
  rw [if_pos (by rw [sizeLine_eq]; omega)]
theorem sp_law_bent_lot {n : Nat} {t : Int} {xs : List PyData} {q : Pen} {R : Mem} (hq : okP n q) (hn : n + 200 ≤ 1000000000) (ht : t.natAbs < 10 ^ 29) (hx : ∀ z ∈ xs, IsSt z) (hl : xs.length ≤ 5) :
    wF m__law_bent_lot [.l 0, .d (.list xs), .d (.int t)] (penO q :: R) (PQ (n + 20) R Bent) := by
  have B1 : (10 : Nat) ^ 30 = 1000000000000000000000000000000 := rfl
  have B2 : (10 : Nat) ^ 50 = 100000000000000000000000000000000000000000000000000 := rfl
  have B3 : (10 : Nat) ^ 29 = 100000000000000000000000000000 := rfl
  have hg : ∀ z ∈ xs, Gd 4 400 z := fun z hz => (hx z hz).gd.mono (by omega) (by omega)
  have vgd : ∀ w : Int, w.natAbs < 10 ^ 50 → Gd 3 60 (.int w) := fun w hw => (gd_int hw).mono (by omega) (by omega)
  refine wF_fnD (b := b__law_bent_lot) (by simp only [List.length_cons, List.length_nil]) ?_
  unfold b__law_bent_lot
  simp only [List.map_cons, List.map_nil, List.replicate, Nat.reduceSub, List.cons_append, List.nil_append]
  refine seq_step fun K kn kr kb kc => ?_
  simp! only [eq_nil_list]
  refine ifK_of (fun h => ?_) fun h => ?_
  · refine wF_imp (sp_pick hq (by omega) (by simp) (by simp)) ?_
    rintro _ _ ⟨q1, rfl, hq1, y1, hy1, rfl⟩
    try simp! only []
    refine wF_imp (sp_pick hq1 (by omega) (by simp) (by simp)) ?_
    rintro _ _ ⟨q2, rfl, hq2, y2, hy2, rfl⟩
    try simp! only []
    refine kr _ _ ?_
    try simp! only []
    have g1 : Gd 3 60 y1 := by
      simp only [List.mem_cons, List.not_mem_nil, or_false] at hy1
      rcases hy1 with rfl | rfl | rfl | rfl <;> exact vgd _ (by omega)
    have g2 : Gd 3 60 y2 := by
      simp only [List.mem_cons, List.not_mem_nil, or_false] at hy2
      rcases hy2 with rfl | rfl | rfl | rfl <;> exact vgd _ (by omega)
    refine ⟨q2, rfl, hq2.mono (by omega), _, rfl, bent_list (fun z hz => ?_) (by simp)⟩
    simp only [List.mem_cons, List.not_mem_nil, or_false] at hz
    subst hz
    refine (gd_tup (d := 3) (b := 60) (n := 2) (fun y hy => ?_) (by simp)).mono (by omega) (by omega)
    simp only [List.mem_cons, List.not_mem_nil, or_false] at hy
    rcases hy with rfl | rfl
    · exact g1
    · exact g2
  refine kn _ _ ?_
  clear kn kr kb kc
  have h0 : 0 < xs.length := by
    cases xs with
    | nil => cases h
    | cons => simp
  refine seq_step fun K kn kr kb kc => ?_
  simp! only []
  refine wF_imp (sp_draw hq (k := (xs.length : Int)) (by omega) (by omega) (by omega)) ?_
  rintro _ _ ⟨q1, rfl, hq1, at1, rfl, a0, a1⟩
  try simp! only []
  refine wF_imp (sp_draw hq1 (k := 8) (by omega) (by decide) (by decide)) ?_
  rintro _ _ ⟨q2, rfl, hq2, way, rfl, w0, w1⟩
  try simp! only []
  refine kn _ _ ?_
  clear kn kr kb kc
  obtain ⟨one, h1, h1e⟩ := atI_ok xs at1 a0 a1
  obtain ⟨fst, h2, h2e⟩ := atI_ok xs 0 (by omega) (by omega)
  refine seq_step fun K kn kr kb kc => ?_
  simp! only [h1e, slD]
  refine kn _ _ ?_
  clear kn kr kb kc
  obtain ⟨s, rfl, hs1, hs2⟩ := hx one h1
  obtain ⟨s2, rfl, hs3, hs4⟩ := hx fst h2
  obtain ⟨lo, hlo⟩ : ∃ lo, lo = DL.cutD xs none (some at1) := ⟨_, rfl⟩
  obtain ⟨hi, hhi⟩ : ∃ hi, hi = DL.cutD xs (some (at1 + 1)) none := ⟨_, rfl⟩
  obtain ⟨hi0, hhi0⟩ : ∃ hi, hi = DL.cutD xs (some at1) none := ⟨_, rfl⟩
  have l1 : lo.length ≤ 5 := by have := cut_len xs none (some at1); rw [hlo]; omega
  have l2 : hi.length ≤ 5 := by have := cut_len xs (some (at1 + 1)) none; rw [hhi]; omega
  have l3 : hi0.length ≤ 5 := by have := cut_len xs (some at1) none; rw [hhi0]; omega
  have g1 : ∀ z ∈ lo, Gd 4 400 z := fun z hz => hg z (cut_mem (hlo ▸ hz))
  have g2 : ∀ z ∈ hi, Gd 4 400 z := fun z hz => hg z (cut_mem (hhi ▸ hz))
  have g3 : ∀ z ∈ hi0, Gd 4 400 z := fun z hz => hg z (cut_mem (hhi0 ▸ hz))
  simp only [← hhi]
  have mk : ∀ (q3 : Pen) (zs : List PyData), okP (n + 15) q3 → (∀ z ∈ zs, Gd 4 400 z) → zs.length ≤ 20 → PQ (n + 20) R Bent (.d (.list zs)) (penO q3 :: R) := fun q3 zs h1 h2 h3 => ⟨q3, rfl, h1.mono (by omega), _, rfl, bent_list h2 h3⟩
  have pair : ∀ a b : Int, a.natAbs < 10 ^ 50 → b.natAbs < 10 ^ 50 → Gd 4 400 (.tuple [.int a, .int b]) := fun a b ha hb => by
    refine (gd_tup (d := 3) (b := 60) (n := 2) (fun y hy => ?_) (by simp)).mono (by omega) (by omega)
    simp only [List.mem_cons, List.not_mem_nil, or_false] at hy
    rcases hy with rfl | rfl
    · exact vgd _ ha
    · exact vgd _ hb
  have mid : ∀ y, Gd 4 400 y → ∀ z ∈ lo ++ y :: hi, Gd 4 400 z := fun y hy z hz => by
    rcases List.mem_append.mp hz with hz | hz
    · exact g1 z hz
    rcases List.mem_cons.mp hz with rfl | hz
    · exact hy
    · exact g2 z hz
  have mlen : ∀ y, (lo ++ y :: hi).length ≤ 20 := fun y => by simp only [List.length_append, List.length_cons]; omega
  -- a stretch bent
  refine seq_step fun K kn kr kb kc => ?_
  simp! only [← hlo, h2e]
  refine ifK_of (fun h => ?_) fun h => ?_
  · refine wF_imp (sp_law_bent_tuple hq2 (by omega) hs1 hs2 hs3 hs4) ?_
    rintro _ _ ⟨q3, rfl, hq3, y, rfl, hy⟩
    try simp! only []
    simp only [← hlo]
    rw [if_pos (by omega), if_pos (by omega)]
    refine kr _ _ ?_
    try simp! only []
    exact mk q3 _ (hq3.mono (by omega)) (mid y hy) (mlen y)
  refine kn _ _ ?_
  clear kn kr kb kc
  -- one more
  refine seq_step fun K kn kr kb kc => ?_
  simp! only [slD, stD, at_0, at_1, eqD_int]
  refine ifK_of (fun h => ?_) fun h => ?_
  · simp only [← hlo]
    rw [if_pos (by omega), if_pos (by omega)]
    refine kr _ _ ?_
    try simp! only []
    exact mk q2 _ (hq2.mono (by omega)) (mid _ (pair _ _ (by omega) (by omega))) (mlen _)
  refine kn _ _ ?_
  clear kn kr kb kc
  -- one further on
  refine seq_step fun K kn kr kb kc => ?_
  simp! only [slD, stD, at_0, at_1, eqD_int, max2I]
  refine ifK_of (fun h => ?_) fun h => ?_
  · have hi1 : DL.intD (.bool (decide (0 < s.f))) = some (.int (if decide (0 < s.f) = true then 1 else 0)) := rfl
    simp! only [hi1, ← hlo]
    rw [if_pos (by omega), if_pos (by omega)]
    refine kr _ _ ?_
    try simp! only []
    refine mk q2 _ (hq2.mono (by omega)) (mid _ (pair _ _ (by omega) ?_)) (mlen _)
    split <;> omega
  refine kn _ _ ?_
  clear kn kr kb kc
  -- twice
  refine seq_step fun K kn kr kb kc => ?_
  simp! only [slD, eqD_int, ← hhi0, ← hlo]
  refine ifK_of (fun h => ?_) fun h => ?_
  · rw [if_pos (by omega), if_pos (by omega)]
    refine kr _ _ ?_
    try simp! only []
    refine mk q2 _ (hq2.mono (by omega)) (fun z hz => ?_) (by simp only [List.length_append, List.length_cons]; omega)
    rcases List.mem_append.mp hz with hz | hz
    · exact g1 z hz
    rcases List.mem_cons.mp hz with rfl | hz
    · exact pair _ _ (by omega) (by omega)
    · exact g3 z hz
  refine kn _ _ ?_
  clear kn kr kb kc
  -- behind
  refine seq_step fun K kn kr kb kc => ?_
  simp! only [slD, eqD_int, ← hlo]
  refine ifK_of (fun h => ?_) fun h => ?_
  · rw [if_pos (by omega), if_pos (by omega)]
    refine kr _ _ ?_
    try simp! only []
    refine mk q2 _ (hq2.mono (by omega)) (fun z hz => ?_) (by simp only [List.length_append, List.length_cons, List.length_nil]; omega)
    rcases List.mem_append.mp hz with hz | hz
    · exact g1 z hz
    rcases List.mem_append.mp hz with hz | hz
    · exact g2 z hz
    simp only [List.mem_cons, List.not_mem_nil, or_false] at hz
    subst hz
    exact pair _ _ (by omega) (by omega)
  refine kn _ _ ?_
  clear kn kr kb kc
  -- any
  refine seq_step fun K kn kr kb kc => ?_
  simp! only [slD, eqD_int, ← hlo]
  refine ifK_of (fun h => ?_) fun h => ?_
  · refine wF_imp (sp_law_odd hq2 (by omega)) ?_
    rintro _ _ ⟨q3, rfl, hq3, y, rfl, hy⟩
    try simp! only []
    have hl1 : listD (.tuple [.int s.f, .int s.k]) = some (.list [.int s.f, .int s.k]) := rfl
    simp! only [hl1]
    have row : ∀ z ∈ [PyData.int s.f, .int s.k], Gd 3 60 z := by
      intro z hz
      simp only [List.mem_cons, List.not_mem_nil, or_false] at hz
      rcases hz with rfl | rfl <;> exact vgd _ (by omega)
    refine wF_imp (sp_pick hq3 (by omega) (by simp) (by simp)) ?_
    rintro _ _ ⟨q4, rfl, hq4, z, hz, rfl⟩
    simp! only []
    rw [if_pos (by omega), if_pos (by omega)]
    refine kr _ _ ?_
    try simp! only []
    refine mk q4 _ (hq4.mono (by omega)) (mid z ?_) (mlen z)
    simp only [List.mem_cons, List.not_mem_nil, or_false] at hz
    rcases hz with rfl | rfl | rfl | rfl
    · exact hy.mono (by omega) (by omega)
    · exact (gd_list (n := 2) row (by simp)).mono (by omega) (by omega)
    · refine (gd_tup (d := 3) (b := 60) (n := 3) (fun y hy => ?_) (by simp)).mono (by omega) (by omega)
      simp only [List.mem_cons, List.not_mem_nil, or_false] at hy
      rcases hy with rfl | rfl | rfl <;> exact vgd _ (by omega)
    · exact (gd_tup (n := 2) (fun y hy => row y (cut_mem hy)) (cut_len _ _ _)).mono (by omega) (by omega)
  refine kn _ _ ?_
  clear kn kr kb kc
  try simp! only []
  rw [if_pos (by omega)]
  refine mk q2 _ (hq2.mono (by omega)) (fun z hz => ?_) (by simp only [List.length_append, List.length_cons, List.length_nil]; omega)
  rcases List.mem_append.mp hz with hz | hz
  · exact hg z hz
  simp only [List.mem_cons, List.not_mem_nil, or_false] at hz
  subst hz
  exact pair _ _ (by omega) (by decide)
end Lw
set_option Elab.async false
set_option linter.all false
set_option maxRecDepth 100000
set_option maxHeartbeats 4000000
namespace Lw
open PySem PySem.Spec PyProof.Rows DL L2
local macro_rules
  | `(tactic| simp! only [$ls,*]) => `(tactic| simp only [↓ifK_t, ↓ifK_f, gA0, gA1, gA2, gA3, sA0, sA1, sA2, sA3, tA0, tA1, tA9, mA0, mA1, List.append_assoc, List.length_append, Nat.add_assoc, Nat.add_zero, ↓strK_s, ↓gdK_d, ↓gdK_l, ↓wE_inC, ↓wE_ixC, ↓wE_getD, ↓wE_var, ↓wE_c, ↓wA_nil, ↓wA_cons, ↓wE_bin, ↓wE_binF, ↓wE_cb, c1_d, c1F_d, c2_d, c1_l, oV_d, oVF_d, oV_ld, oV_dl, oVF_ld, vw_l, vwO_lst, vwO_dct, ↓wB_of, ↓wB_tru, ↓wB_and, ↓wB_or, ↓wB_not, ↓boolK_b, ↓wE_and, ↓wE_or, ↓wE_not, ↓wE_if, ↓wE_isN, isnE, ↓wE_is, ↓wE_is2, ↓bK_b, ↓wE_chain, ↓wE_call, ↓wE_lst, ↓wE_tup, ↓wE_tupT, ↓wE_lstL, ↓wE_dct0, ↓wE_dctL, ↓seqK_l, ↓seqK_t, ↓wE_listL, ↓intK_i, ↓wE_lrg, ↓wE_neg, ↓datK_d, ↓plK_l, ↓lstK_l, ↓dctK_l, ↓wE_app, ↓wE_pop, ↓wE_get, ↓wS_put, ↓wS_setIx, ↓wO_no, ↓wO_yes, ↓wE_sl, ↓wE_rev, vw_d, ↓wE_frzO, ↓wE_fld, ↓insK_i, ↓wS_fldP, ↓wE_make, ↓wE_meth, ↓wS_nil, ↓wS_never, ↓wS_set, ↓wS_ex, ↓wS_ret, ↓wS_retN, ↓wS_if, ↓wS_bk, ↓wS_ct, ↓wS_w, wipeO_nx, wipeO_bk, wipeO_ct, wipeO_rt, wipeE_nil, wipeE_cons, ↓zK_nx, ↓zK_rt, ↓wS_z, zSlots_nil, zSlots_cons, zTo_l, zTo_d, zTo_n, ↓asgK_s, ↓wS_asg, gNm_is, gTpE_d, gTpE_t, setAllE_nil, setAllE_cons, ↓augK_i, ↓wS_aug, ↓l2K_i, ↓l3K_i, ↓wS_par, ↓wS_par3, ↓retD_nx, ↓retD_d, ↓retD_o, ↓retD_l, ↓wS_for, ↓wI_any, ↓wI_rg1, ↓wI_rg2, ↓oK_some, ↓oK_none, ↓oK_ite, asD, Option.map_some, Option.bind_some, List.set_cons_zero, List.set_cons_succ, List.getElem?_cons_zero, List.getElem?_cons_succ, List.map_cons, List.map_nil, List.replicate, List.cons_append, List.nil_append, List.length_cons, List.length_nil, Nat.reduceSub, Nat.reduceAdd, Nat.reduceLeDiff, Nat.reduceLT, reduceIte, Bool.false_eq_true, Bool.not_true, Bool.not_false, decide_eq_true_eq, Bool.not_eq_true', decide_eq_false_iff_not, true_and, and_true, sizeLine_eq, addD, subD, truD, ltD, leD, gtD, geD, cmpI, ixD, lenD, isT_int, isT_bool, isT_str, isT_list, isT_tuple, isT2, ty_int, ty_bool, ty_str, ty_list, ty_tuple, $ls,*])
theorem kv_mk (cs : List PyData) : putP (putP (putP [] (.inr (Str.ofString "cells")) (.list cs)) (.inr (Str.ofString "turn")) (.int 0)) (.inr (Str.ofString "left")) (.int 0) = [(.inr (Str.ofString "cells"), .list cs), (.inr (Str.ofString "turn"), .int 0), (.inr (Str.ofString "left"), .int 0)] := by
  simp [putP, k_ct, k_tl, k_cl]
theorem f_pen (ns : List Int) : m__law_pen [.f (ns.map PyData.int)] [] = some (.l 0, [penO ⟨ns.take 63, 0, 0⟩]) := by
  have h63 : DL.cutD (ns.map PyData.int) none (some 63) = (ns.take 63).map PyData.int := by
    rw [show (63 : Int) = ((63 : Nat) : Int) from rfl, cut_to, List.map_take]
  simp [m__law_pen, fnM, b__law_pen, sRet, eDct, mPairs, eCB, c1, eSlF, aCons, aNil, oNo, oYes, eC, eVar, h63, listD, vw, fnOut, kv_mk, penO, kv]
theorem sp_lay1 {t : Int} {ps : List Pc} {o : MO} {Q : EV → Mem → Prop} (h : OkLay t ps) : wF m_Lay___init__ [.l 1, .d (.int t), .d (.list (ps.map pcD))] [o, .ins "Lay" []] Q ↔ Q (.d .none) [o, .ins "Lay" (lay0 t ps)] := sp_lay (R := [o]) h
theorem lay_spots (t : Int) (ps : List Pc) : fdGet "spots" (lay0 t ps) = none := by
  have n1 : (Str.ofString "spots" = Str.ofString "_total") = False := eq_false (by decide +kernel)
  have n2 : (Str.ofString "spots" = Str.ofString "_pieces") = False := eq_false (by decide +kernel)
  simp only [fdGet, lay0, n1, n2, if_false]
theorem ne_str (a : Str) : neD (.str a) (.str a) = some (.bool false) := by
  unfold neD
  split
  · simp [PyData.eqv]
  · split
    · rename_i h
      cases h
    · simp
theorem okLay_nil : OkLay 0 [] := ⟨by decide, by decide, by simp, by simp, rfl, rfl⟩
theorem lenF_f {m : Mem} {ds : List PyData} : lenF m [.f ds] = some (.int ds.length) := rfl
theorem frO_1 {o : MO} {c : Str} {fs : List (Str × PyData)} {Q : EV → Mem → Prop} : frO 1 (.l 1) [o, .ins c fs] Q ↔ Q (.o c fs) [o] := by
  show (_ ∧ _) ∧ _ ↔ _
  exact ⟨fun h => h.2, fun h => ⟨⟨rfl, rfl⟩, h⟩⟩
theorem lotS_mem {t : Int} : ∀ {ss : List St} {e : Int}, lotS t e ss = true → ∀ s ∈ ss, inB s.f s.k t = true
  | [], _, _, s, h => by cases h
  | x :: ss, e, h, s, hs => by
    simp only [lotS, Bool.and_eq_true] at h
    rcases List.mem_cons.mp hs with rfl | hs
    · exact h.1.2
    · exact lotS_mem h.2 s hs
theorem lotS_st {t : Int} {ss : List St} (h : lotS t 0 ss = true) (t1 : t ≤ 2000000000000000000) : ∀ z ∈ ss.map stD, IsSt z := by
  intro z hz
  obtain ⟨s, hs, rfl⟩ := List.mem_map.mp hz
  have := lotS_mem h s hs
  simp only [inB, Bool.and_eq_true, decide_eq_true_eq] at this
  have B : (10 : Nat) ^ 30 = 1000000000000000000000000000000 := rfl
  exact ⟨s, rfl, by unfold N30; omega, by unfold N30; omega⟩
theorem sp_lay_nil {o : MO} {Q : EV → Mem → Prop} : wF m_Lay___init__ [.l 1, .d (.int 0), .d (.list [])] [o, .ins "Lay" []] Q ↔ Q (.d .none) [o, .ins "Lay" (lay0 0 [])] := sp_lay1 okLay_nil
/-! ### the law -/
theorem law_wp (ns : List Int) (h : ns.length ≤ 63) : wF m_law [.f (ns.map PyData.int)] [] fun r _ => r = .d (.bool true) := by
  have B3 : (10 : Nat) ^ 29 = 100000000000000000000000000000 := rfl
  have B4 : (10 : Nat) ^ 30 = 1000000000000000000000000000000 := rfl
  refine wF_fnD (b := b_law) (by simp only [List.length_cons, List.length_nil]) ?_
  unfold b_law
  simp only [List.map_cons, List.map_nil, List.replicate, Nat.reduceSub, List.cons_append, List.nil_append]
  refine seq_step fun K kn kr kb kc => ?_
  simp! only []
  rw [wF_eq (f_pen ns)]
  refine kn _ _ ?_
  clear kn kr kb kc
  refine seq_step fun K kn kr kb kc => ?_
  simp! only [lenF_f, min2I, List.length_map]
  refine ⟨by omega, ?_⟩
  refine for_rg 0 (fun i e m' => ∃ q : Pen, okP (2000 * i.toNat) q ∧ m' = [penO q] ∧ e = [some (.f (ns.map PyData.int)), some (.l 0), none, none, none, none, none, none, none, none, none]) _ ?_ ?_ _ _ ⟨⟨ns.take 63, 0, 0⟩, ⟨by simp; omega, Int.le_refl _, by simp⟩, rfl, rfl⟩
  · rintro i e m' i0 i1 ⟨q, hq, rfl, rfl⟩
    have hi : i.toNat ≤ 10 := by omega
    simp! only []
    -- the pieces
    refine seq_step fun K2 kn2 kr2 kb2 kc2 => ?_
    simp! only []
    refine wF_imp (sp_law_small (R := []) hq (by omega)) ?_
    rintro _ _ ⟨q1, rfl, hq1, ps1, rfl, ho1⟩
    try simp! only []
    refine wF_imp (sp_law_long (R := []) hq1 (by omega)) ?_
    rintro _ _ ⟨q2, rfl, hq2, ps2, rfl, ho2⟩
    try simp! only []
    refine wF_imp (sp_pick (R := []) hq2 (by omega) (by simp) (by simp)) ?_
    rintro _ _ ⟨q3, rfl, hq3, x, hx, rfl⟩
    obtain ⟨ps, rfl, ho, hp1, hp2, hp3⟩ : ∃ ps : List Pc, x = .list (ps.map pcD) ∧ OkLay (ps.map Pc.k).sum ps ∧ 1 ≤ ps.length ∧ ps.length ≤ 100 ∧ 1 ≤ (ps.map Pc.k).sum := by
      simp only [List.mem_cons, List.not_mem_nil, or_false] at hx
      rcases hx with rfl | rfl
      · exact ⟨ps1, rfl, ho1⟩
      · exact ⟨ps2, rfl, ho2⟩
    obtain ⟨t, ht⟩ : ∃ t, t = (ps.map Pc.k).sum := ⟨_, rfl⟩
    rw [← ht] at ho hp3
    have t0 := ho.t0
    have t1 := ho.t1
    try simp! only []
    refine kn2 _ _ ?_
    clear kn2 kr2 kb2 kc2
    refine seq_step fun K2 kn2 kr2 kb2 kc2 => ?_
    simp! only [↓sp_law_total (show ps.length ≤ 16777216 by omega), ← ht]
    refine kn2 _ _ ?_
    clear kn2 kr2 kb2 kc2
    -- the laying and the lot
    refine seq_step fun K2 kn2 kr2 kb2 kc2 => ?_
    simp! only [↓sp_lay1 ho]
    simp only [frO_1]
    refine wF_imp (sp_draw (R := []) hq3 (k := 5) (by omega) (by decide) (by decide)) ?_
    rintro _ _ ⟨q4, rfl, hq4, d4, rfl, d40, d41⟩
    try simp! only []
    refine wF_imp (sp_law_lot (R := []) hq4 (by omega) t0 t1 (most := 1 + d4) (by omega) (by omega)) ?_
    rintro _ _ ⟨q5, rfl, hq5, ss, rfl, hlot, hsl⟩
    have hst := lotS_st hlot t1
    try simp! only []
    refine kn2 _ _ ?_
    clear kn2 kr2 kb2 kc2
    -- what is looked at
    refine seq_step fun K2 kn2 kr2 kb2 kc2 => ?_
    simp! only [tupleD]
    rw [if_pos (by rw [List.length_map]; omega)]
    refine wF_imp (sp_law_odd (R := []) hq5 (by omega)) ?_
    rintro _ _ ⟨q6, rfl, hq6, odd, rfl, hodd⟩
    try simp! only []
    refine kn2 _ _ ?_
    clear kn2 kr2 kb2 kc2
    refine seq_step fun K2 kn2 kr2 kb2 kc2 => ?_
    simp! only []
    obtain ⟨some1, hs1⟩ : ∃ s1, s1 = [PyData.list (ss.map stD), .tuple (ss.map stD), .list (ss.map stD ++ [.tuple [.int t, .int 1]]), .list [.tuple [.int 0, .int (t + 1)]], odd] := ⟨_, rfl⟩
    rw [← hs1]
    have hl1 : some1.length = 5 := by rw [hs1]; rfl
    have hg1 : ∀ x ∈ some1, Gd 5 10000 x := by
      have e1 : ∀ z ∈ ss.map stD, Gd 1 2 z := fun z hz => (hst z hz).gd
      have e2 : ∀ z ∈ ss.map stD ++ [.tuple [.int t, .int 1]], Gd 1 2 z := fun z hz => by
        rcases List.mem_append.mp hz with hz | hz
        · exact e1 z hz
        · simp only [List.mem_cons, List.not_mem_nil, or_false] at hz
          subst hz
          exact IsSt.gd ⟨⟨t, 1⟩, rfl, by show t.natAbs < 10 ^ 30; omega, by show (1 : Int).natAbs < 10 ^ 30; decide⟩
      intro x hx
      rw [hs1] at hx
      simp only [List.mem_cons, List.not_mem_nil, or_false] at hx
      rcases hx with rfl | rfl | rfl | rfl | rfl
      · exact (gd_list e1 (n := 10) (by rw [List.length_map]; omega)).mono (by omega) (by omega)
      · exact (gd_tup e1 (n := 10) (by rw [List.length_map]; omega)).mono (by omega) (by omega)
      · exact (gd_list e2 (n := 10) (by first | omega | (simp; done) | (simp; omega))).mono (by omega) (by omega)
      · refine (gd_list (d := 1) (b := 2) (n := 1) (fun z hz => ?_) (by simp)).mono (by omega) (by omega)
        simp only [List.mem_cons, List.not_mem_nil, or_false] at hz
        subst hz
        exact IsSt.gd ⟨⟨0, t + 1⟩, rfl, by show (0 : Int).natAbs < 10 ^ 30; decide, by show (t + 1).natAbs < 10 ^ 30; omega⟩
      · exact hodd.mono (by omega) (by omega)
    refine wE_compX (fun rest acc m' => ∃ q' : Pen, okP (2000 * i.toNat + 1700 + 20 * acc.length) q' ∧ rest.length + acc.length = 4 ∧ (∀ x ∈ acc, Gd 5 10000 x) ∧ m' = [penO q']) ?_ ?_ ?_
    · simp! only []
      exact ⟨by omega, fun _ => trivial, q6, hq6.mono (by first | omega | (simp; done) | (simp; omega)), by simp [rgL], by simp, rfl⟩
    · rintro x rest acc m' ⟨q', hq', hr, hb, rfl⟩ hml
      simp only [List.length_cons] at hr
      simp! only []
      refine wF_imp (sp_law_bent_lot (R := [.lst acc]) hq' (by omega) (by omega) hst (by rw [List.length_map]; omega)) ?_
      rintro _ _ ⟨q7, rfl, hq7, y, rfl, hy⟩
      simp! only []
      refine ⟨[penO q7], rfl, rfl, by omega, q7, hq7.mono (by first | omega | (simp; done) | (simp; omega)), by first | omega | (simp; done) | (simp; omega), fun z hz => ?_, rfl⟩
      rcases List.mem_append.mp hz with hz | hz
      · exact hb z hz
      · simp at hz; subst hz; exact hy
    rintro acc m' ⟨q7, hq7, hr, hb, rfl⟩ _
    simp only [List.length_nil] at hr
    simp! only []
    rw [if_pos (by omega)]
    refine kn2 _ _ ?_
    clear kn2 kr2 kb2 kc2
    obtain ⟨some2, hs2⟩ : ∃ s2, s2 = some1 ++ acc := ⟨_, rfl⟩
    rw [← hs2]
    have hl2 : some2.length = 9 := by rw [hs2, List.length_append]; omega
    have hg2 : ∀ x ∈ some2, Gd 5 10000 x := fun x hx => by
      rw [hs2] at hx
      rcases List.mem_append.mp hx with hx | hx
      · exact hg1 x hx
      · exact hb x hx
    refine seq_step fun K2 kn2 kr2 kb2 kc2 => ?_
    simp! only []
    refine wF_imp (sp_law_bent_lot (R := []) (xs := [stD ⟨0, t⟩]) hq7 (by omega) (by omega) (fun z hz => ?_) (by simp)) ?_
    · simp only [List.mem_cons, List.not_mem_nil, or_false] at hz
      subst hz
      exact ⟨⟨0, t⟩, rfl, by show (0 : Int).natAbs < 10 ^ 30; decide, by show t.natAbs < 10 ^ 30; omega⟩
    rintro _ _ ⟨q8, rfl, hq8, y, rfl, hy⟩
    simp! only []
    rw [if_pos (by omega)]
    obtain ⟨some3, hs3⟩ : ∃ s3, s3 = some2 ++ [y] := ⟨_, rfl⟩
    have hg3 : ∀ x ∈ some3, Gd 5 10000 x := fun x hx => by
      rw [hs3] at hx
      rcases List.mem_append.mp hx with hx | hx
      · exact hg2 x hx
      · simp at hx; subst hx; exact hy
    rw [← hs3]
    refine for_ls (fun _ => trivial) some3 EV.d (fun pre post e m' => m' = [penO q8] ∧ e = [some (.f (ns.map PyData.int)), some (.l 0), some (.d (.int i)), some (.d (.list (ps.map pcD))), some (.d (.int t)), some (.o "Lay" (lay0 t ps)), some (.d (.list (ss.map stD))), some (.d (.list some2)), none, none, none]) ?_ ?_ _ _ ⟨rfl, rfl⟩
    · rintro pre x post e m' hsp ⟨rfl, rfl⟩
      have hx : Gd 5 10000 x := hg3 x (by rw [hsp]; simp)
      have hr := hx.repr (by decide) (by decide)
      have hb : ∀ b : Bool, reprA (.bool b) = some (.str (PyData.bool b).shown) := fun b => (gd_bool b).repr (by decide) (by decide)
      simp! only []
      refine seq_step fun K3 kn3 kr3 kb3 kc3 => ?_
      simp! only [hr]
      refine kn3 _ _ ?_
      clear kn3 kr3 kb3 kc3
      simp! only [hr, hb, ne_str, ↓sp_is_lot (lay_total t ps) (lay_spots t ps) (hx.okL (by decide)), ↓sp_law_is_lot]
      try exact ⟨trivial, trivial⟩
    · rintro e m' ⟨rfl, rfl⟩
      refine kn2 _ _ ?_
      clear kn2 kr2 kb2 kc2
      have hlo : lotB t (.list (ss.map stD)) = true := (lotG_st).trans hlot
      have hok : okL (.list (ss.map stD)) := ⟨by rw [List.length_map]; omega, fun z hz => by obtain ⟨s, _, rfl⟩ := List.mem_map.mp hz; exact okT_st s⟩
      simp! only [↓sp_is_lot (lay_total t ps) (lay_spots t ps) hok, hlo, isB]
      simp! only [decide_true]
      exact ⟨q8, hq8.mono (by omega), rfl⟩
  · rintro e m' ⟨q, hq, rfl, rfl⟩
    refine kn _ _ ?_
    clear kn kr kb kc
    simp! only []
    have b0 : lotB 0 (.list []) = true := rfl
    have b1 : lotB 0 (.list [.tuple [.int 0, .int 1]]) = false := rfl
    have k0 : okL (.list []) := ⟨by simp, by simp⟩
    have k1 : okL (.list [.tuple [.int 0, .int 1]]) := ⟨by simp, fun d hd => by simp at hd; subst hd; exact okT_st ⟨0, 1⟩⟩
    simp! only [↓sp_lay_nil, frO_1, true_and, ↓sp_is_lot (lay_total 0 []) (lay_spots 0 []) k0, b0, isB]
    simp! only [↓sp_lay_nil, frO_1, true_and, ↓sp_is_lot (lay_total 0 []) (lay_spots 0 []) k1, b1, isB, decide_true]
theorem law_true (ns : List Int) (h : ns.length ≤ 63) : ∃ m', m_law [.f (ns.map PyData.int)] [] = some (.d (.bool true), m') := by
  obtain ⟨r, m', e, rfl⟩ := wF_is (law_wp ns h)
  exact ⟨m', e⟩
end Lw
open PySem PySem.W PyProof.Rows
set_option maxRecDepth 100000 in
set_option maxHeartbeats 0 in
theorem PySem.Challenge.cw_spoolrounds_k20_what_is_a_lot_holds : PySem.Challenge.rw_spoolrounds_k20_what_is_a_lot.Holds := by
  w_on; o_law; k_head; (case hw => w_witness2)
  k_fill
  refine DL.walk_s (l := PySem.Challenge.rw_spoolrounds_k20_what_is_a_lot) (F := Lw.m_law) (k := 7) (x := "script") rfl (by decide) rfl (by decide +kernel) ⟨rfl, by decide, by decide⟩ (fun w h Y => PySem.W.kIn_of Y) ?G Lw.law_true
  case G =>
    intro w mg fa h KX G hmg
    refine' Lw.all_mk KX G hmg ?q_Lay ?pg_Lay ?hd_Lay ?po_Lay ?sa_Lay ?mk_Lay ?kc_Lay ?na_Lay__pieces ?na_Lay__total ?a0 ?l0 ?c0 ?k0 ?a1 ?l1 ?c1 ?k1 ?a2 ?l2 ?c2 ?k2 ?a3 ?l3 ?c3 ?k3 ?a4 ?l4 ?c4 ?k4 ?a5 ?l5 ?c5 ?k5 ?a6 ?l6 ?c6 ?k6 ?a7 ?l7 ?c7 ?k7 ?a8 ?l8 ?c8 ?k8 ?a9 ?l9 ?c9 ?k9 ?a10 ?l10 ?c10 ?k10 ?a11 ?l11 ?c11 ?k11 ?a12 ?l12 ?c12 ?k12 ?a13 ?l13 ?c13 ?k13 ?a14 ?l14 ?c14 ?k14 ?a15 ?l15 ?c15 ?k15 ?a16 ?l16 ?c16 ?k16 ?a17 ?l17 ?c17 ?k17 ?a18 ?l18 ?c18 ?k18 ?a19 ?i19 ?l19 ?c19 ?k19 ?a20 ?l20 ?c20 ?k20 ?a21 ?l21 ?c21 ?k21 ?a22 ?l22 ?c22 ?k22 ?a23 ?l23 ?c23 ?k23 ?a24 ?l24 ?c24 ?k24 ?a25 ?i25 ?l25 ?c25 ?k25 ?a26 ?l26 ?c26 ?k26 ?a27 ?l27 ?c27 ?k27 ?a28 ?l28 ?c28 ?k28 ?a29 ?l29 ?c29 ?k29 ?a30 ?l30 ?c30 ?k30 ?z_abs ?z_all ?z_bool ?z_int ?z_isinstance ?z_len ?z_list ?z_max ?z_min ?z_range ?z_repr ?z_sorted ?z_str ?z_sum ?z_tuple ?y_MOST_SPOTS
    (case q_Lay => k_is)
    (case pg_Lay => k_is)
    (case hd_Lay => k_is)
    (case po_Lay => k_is)
    (case sa_Lay => k_is)
    (case mk_Lay => k_is)
    (case kc_Lay => k_is)
    (case na_Lay__pieces => k_is)
    (case na_Lay__total => k_is)
    (case a0 => k_is)
    (case l0 => k_is)
    (case c0 => k_is)
    (case k0 => k_is)
    (case a1 => k_is)
    (case l1 => k_is)
    (case c1 => k_is)
    (case k1 => k_is)
    (case a2 => k_is)
    (case l2 => k_is)
    (case c2 => k_is)
    (case k2 => k_is)
    (case a3 => k_is)
    (case l3 => k_is)
    (case c3 => k_is)
    (case k3 => k_is)
    (case a4 => k_is)
    (case l4 => k_is)
    (case c4 => k_is)
    (case k4 => k_is)
    (case a5 => k_is)
    (case l5 => k_is)
    (case c5 => k_is)
    (case k5 => k_is)
    (case a6 => k_is)
    (case l6 => k_is)
    (case c6 => k_is)
    (case k6 => k_is)
    (case a7 => k_is)
    (case l7 => k_is)
    (case c7 => k_is)
    (case k7 => k_is)
    (case a8 => k_is)
    (case l8 => k_is)
    (case c8 => k_is)
    (case k8 => k_is)
    (case a9 => k_is)
    (case l9 => k_is)
    (case c9 => k_is)
    (case k9 => k_is)
    (case a10 => k_is)
    (case l10 => k_is)
    (case c10 => k_is)
    (case k10 => k_is)
    (case a11 => k_is)
    (case l11 => k_is)
    (case c11 => k_is)
    (case k11 => k_is)
    (case a12 => k_is)
    (case l12 => k_is)
    (case c12 => k_is)
    (case k12 => k_is)
    (case a13 => k_is)
    (case l13 => k_is)
    (case c13 => k_is)
    (case k13 => k_is)
    (case a14 => k_is)
    (case l14 => k_is)
    (case c14 => k_is)
    (case k14 => k_is)
    (case a15 => k_is)
    (case l15 => k_is)
    (case c15 => k_is)
    (case k15 => k_is)
    (case a16 => k_is)
    (case l16 => k_is)
    (case c16 => k_is)
    (case k16 => k_is)
    (case a17 => k_is)
    (case l17 => k_is)
    (case c17 => k_is)
    (case k17 => k_is)
    (case a18 => k_is)
    (case l18 => k_is)
    (case c18 => k_is)
    (case k18 => k_is)
    (case a19 => k_is)
    (case i19 => k_is)
    (case l19 => k_is)
    (case c19 => k_is)
    (case k19 => k_is)
    (case a20 => k_is)
    (case l20 => k_is)
    (case c20 => k_is)
    (case k20 => k_is)
    (case a21 => k_is)
    (case l21 => k_is)
    (case c21 => k_is)
    (case k21 => k_is)
    (case a22 => k_is)
    (case l22 => k_is)
    (case c22 => k_is)
    (case k22 => k_is)
    (case a23 => k_is)
    (case l23 => k_is)
    (case c23 => k_is)
    (case k23 => k_is)
    (case a24 => k_is)
    (case l24 => k_is)
    (case c24 => k_is)
    (case k24 => k_is)
    (case a25 => k_is)
    (case i25 => k_is)
    (case l25 => k_is)
    (case c25 => k_is)
    (case k25 => k_is)
    (case a26 => k_is)
    (case l26 => k_is)
    (case c26 => k_is)
    (case k26 => k_is)
    (case a27 => k_is)
    (case l27 => k_is)
    (case c27 => k_is)
    (case k27 => k_is)
    (case a28 => k_is)
    (case l28 => k_is)
    (case c28 => k_is)
    (case k28 => k_is)
    (case a29 => k_is)
    (case l29 => k_is)
    (case c29 => k_is)
    (case k29 => k_is)
    (case a30 => k_is)
    (case l30 => k_is)
    (case c30 => k_is)
    (case k30 => k_is)
    (case z_abs => k_is)
    (case z_all => k_is)
    (case z_bool => k_is)
    (case z_int => k_is)
    (case z_isinstance => k_is)
    (case z_len => k_is)
    (case z_list => k_is)
    (case z_max => k_is)
    (case z_min => k_is)
    (case z_range => k_is)
    (case z_repr => k_is)
    (case z_sorted => k_is)
    (case z_str => k_is)
    (case z_sum => k_is)
    (case z_tuple => k_is)
    (case y_MOST_SPOTS => k_is)