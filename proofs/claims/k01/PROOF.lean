import PyProof.Rows.All
import HandS.ForMost
import HandS.IsInst
import HandS.Wide
import HandS.TupAny
import HandS.TupMul
import HandS.Text
import PyProof.Rows.IntBool
import HandS.Conv
import HandS.Flow
import PyProof.ReprRoads
import HandS.Rev
import HandS.Style
import PyProof.StrOps2
import PySem.Challenge.RW_spoolrounds_k01_rows_of_thread
import PyProof.P3Eq
set_option Elab.async false
set_option linter.all false
set_option maxRecDepth 100000
set_option maxHeartbeats 4000000
/-! A layer of data: values by what they say (PyData), things that change by their places in a memory. -/
namespace DL
open PySem PySem.Spec PyProof.Rows L2

abbrev Frg := PySem.W.Frag
def keyD : Key → PyData
  | .inl i => .int i
  | .inr x => .str x
mutual
/-- the value v says d in the heap G -/
inductive Dt (K : Frg) (G : Hp) : V → PyData → Prop
  | non : Dt K G .non .none
  | bl (b : Bool) : Dt K G (.bl b) (.bool b)
  | int (i : Int) : Dt K G (.int i) (.int i)
  | str (x : Str) : Dt K G (.str x) (.str x)
  | lst {a : Addr} {xs : List V} {ds : List PyData} (h : G a = some (.lst xs)) (q : DtA K G xs ds) : Dt K G (.ref a) (.list ds)
  | tup {a : Addr} {xs : List V} {ds : List PyData} (h : SqT K G a xs) (q : DtA K G xs ds) : Dt K G (.ref a) (.tuple ds)
  | dic {a : Addr} {ys : List (Key × V)} {ds : List (PyData × PyData)} (h : G a = some (.dK ys)) (q : DtK K G ys ds) : Dt K G (.ref a) (.dict ds)
inductive DtA (K : Frg) (G : Hp) : List V → List PyData → Prop
  | nil : DtA K G [] []
  | cons {v : V} {vs : List V} {d : PyData} {ds : List PyData} (h : Dt K G v d) (q : DtA K G vs ds) : DtA K G (v :: vs) (d :: ds)
inductive DtK (K : Frg) (G : Hp) : List (Key × V) → List (PyData × PyData) → Prop
  | nil : DtK K G [] []
  | cons {k : Key} {v : V} {vs : List (Key × V)} {d : PyData} {ds : List (PyData × PyData)} (h : Dt K G v d) (q : DtK K G vs ds) : DtK K G ((k, v) :: vs) ((keyD k, d) :: ds)
end
section
variable {K : Frg} {G G' : Hp}
theorem sqt_same {a : Addr} {xs : List V} (e : Same G G') (h : SqT K G a xs) : SqT K G' a xs := by
  rcases h with (h | ⟨o, h⟩) | h
  · exact .inl (.inl (e _ _ h))
  · exact .inl (.inr ⟨o, e _ _ h⟩)
  · exact .inr h
mutual
theorem Dt.mono (e : Same G G') : ∀ (d : PyData) {v : V}, Dt K G v d → Dt K G' v d
  | .none, _, h => by cases h; exact .non
  | .bool b, _, h => by cases h; exact .bl b
  | .int i, _, h => by cases h; exact .int i
  | .str x, _, h => by cases h; exact .str x
  | .list ds, _, h => by cases h with | lst h q => exact .lst (e _ _ h) (DtA.mono e ds q)
  | .tuple ds, _, h => by cases h with | tup h q => exact .tup (sqt_same e h) (DtA.mono e ds q)
  | .dict ds, _, h => by cases h with | dic h q => exact .dic (e _ _ h) (DtK.mono e ds q)
theorem DtA.mono (e : Same G G') : ∀ (ds : List PyData) {vs : List V}, DtA K G vs ds → DtA K G' vs ds
  | [], _, h => by cases h; exact .nil
  | d :: ds, _, h => by cases h with | cons h q => exact .cons (Dt.mono e d h) (DtA.mono e ds q)
theorem DtK.mono (e : Same G G') : ∀ (ds : List (PyData × PyData)) {vs : List (Key × V)}, DtK K G vs ds → DtK K G' vs ds
  | [], _, h => by cases h; exact .nil
  | (k, d) :: ds, _, h => by cases h with | cons h q => exact .cons (Dt.mono e d h) (DtK.mono e ds q)
end
theorem DtA.len : ∀ {vs : List V} {ds : List PyData}, DtA K G vs ds → vs.length = ds.length
  | _, _, .nil => rfl
  | _, _, .cons h q => by rw [List.length_cons, List.length_cons, DtA.len q]
theorem DtA.app : ∀ {vs ws : List V} {ds es : List PyData}, DtA K G vs ds → DtA K G ws es → DtA K G (vs ++ ws) (ds ++ es)
  | _, _, _, _, .nil, r => r
  | _, _, _, _, .cons h q, r => .cons h (q.app r)
theorem DtA.get : ∀ {vs : List V} {ds : List PyData} {i : Nat} {d : PyData}, DtA K G vs ds → ds[i]? = some d → ∃ v, vs[i]? = some v ∧ Dt K G v d
  | _, _, _, _, .nil, e => by simp at e
  | _, _, 0, _, .cons h q, e => by simp at e; subst e; exact ⟨_, rfl, h⟩
  | _, _, i + 1, d, .cons _ q, e => by
    obtain ⟨v, h1, h2⟩ := DtA.get (i := i) (d := d) q (by simpa using e)
    exact ⟨v, by simpa using h1, h2⟩
theorem DtA.get' : ∀ {vs : List V} {ds : List PyData} {i : Nat} {v : V}, DtA K G vs ds → vs[i]? = some v → ∃ d, ds[i]? = some d ∧ Dt K G v d
  | _, _, _, _, .nil, e => by simp at e
  | _, _, 0, _, .cons h q, e => by simp at e; subst e; exact ⟨_, rfl, h⟩
  | _, _, i + 1, v, .cons _ q, e => by
    obtain ⟨d, h1, h2⟩ := DtA.get' (i := i) (v := v) q (by simpa using e)
    exact ⟨d, by simpa using h1, h2⟩
theorem DtA.take : ∀ {vs : List V} {ds : List PyData} (n : Nat), DtA K G vs ds → DtA K G (vs.take n) (ds.take n)
  | _, _, 0, _ => .nil
  | _, _, _ + 1, .nil => .nil
  | _, _, n + 1, .cons h q => .cons h (DtA.take n q)
theorem DtA.drop : ∀ {vs : List V} {ds : List PyData} (n : Nat), DtA K G vs ds → DtA K G (vs.drop n) (ds.drop n)
  | _, _, 0, h => h
  | _, _, _ + 1, .nil => .nil
  | _, _, n + 1, .cons _ q => DtA.drop n q
theorem DtA.set {v : V} {d : PyData} (h : Dt K G v d) : ∀ {vs : List V} {ds : List PyData} (n : Nat), DtA K G vs ds → DtA K G (vs.set n v) (ds.set n d)
  | _, _, _, .nil => .nil
  | _, _, 0, .cons _ q => .cons h q
  | _, _, n + 1, .cons g q => .cons g (DtA.set h n q)
theorem DtA.rev : ∀ {vs : List V} {ds : List PyData}, DtA K G vs ds → DtA K G vs.reverse ds.reverse
  | _, _, .nil => .nil
  | _, _, .cons h q => by rw [List.reverse_cons, List.reverse_cons]; exact (DtA.rev q).app (.cons h .nil)
end

/-! ### what changes: a memory of places -/
/-- data; a place of the memory; the script, which is read alone -/
inductive EV where
  | d (x : PyData) | l (i : Nat) | f (ds : List PyData) | t (xs : List EV)
  /-- an instance that stands as it is: its class by name, its attributes -/
  | o (c : Str) (fs : List (Str × PyData))
inductive MO where
  | gone | lst (ds : List PyData) | dct (kvs : List (Key × PyData)) | ins (c : Str) (fs : List (Str × PyData))
abbrev Mem := List MO
abbrev Env' := List (Option EV)

def Hid (ρ : List Addr) (m : Mem) (a : Addr) : Prop := ∃ (i : Nat) (o : MO), ρ[i]? = some a ∧ m[i]? = some o ∧ o ≠ .gone
open Classical in
/-- the heap without the things of the memory -/
noncomputable def hid (ρ : List Addr) (m : Mem) (H : Hp) : Hp := fun a => if Hid ρ m a then none else H a
theorem hid_no {ρ : List Addr} {m : Mem} {H : Hp} {a : Addr} (h : ¬ Hid ρ m a) : hid ρ m H a = H a := by
  unfold hid; rw [if_neg h]
theorem hid_some {ρ : List Addr} {m : Mem} {H : Hp} {a : Addr} {o : HO} (h : hid ρ m H a = some o) : H a = some o ∧ ¬ Hid ρ m a := by
  unfold hid at h
  split at h
  · cases h
  · exact ⟨h, by assumption⟩
theorem hid_le {ρ : List Addr} {m : Mem} {H : Hp} : Same (hid ρ m H) H := fun _ _ h => (hid_some h).1

/-- attributes that are data -/
def FdR (K : Frg) (G : Hp) : List (Str × V) → List (Str × PyData) → Prop := Paired fun p q => p.1 = q.1 ∧ Dt K G p.2 q.2
mutual
def EvR (K : Frg) (G : Hp) (ρ : List Addr) (v : V) : EV → Prop
  | .d x => Dt K G v x
  | .l i => ∃ a, ρ[i]? = some a ∧ v = .ref a
  | .f ds => ∃ a xs, v = .ref a ∧ SqL K G a xs ∧ DtA K G xs ds
  | .t xs => ∃ a vs, v = .ref a ∧ SqT K G a vs ∧ EvAll K G ρ vs xs
  | .o c fs => ∃ a C dx ys, v = .ref a ∧ PySem.W.nsIn K mainGlobals c = some (some (.ref C)) ∧ G a = some (.ins C dx ys) ∧ FdR K G ys fs
def EvAll (K : Frg) (G : Hp) (ρ : List Addr) (vs : List V) : List EV → Prop
  | [] => vs = []
  | x :: xs => ∃ w ws, vs = w :: ws ∧ EvR K G ρ w x ∧ EvAll K G ρ ws xs
end
/-- the pairs of a dict, the attributes of an instance -/
def KvR (K : Frg) (G : Hp) : List (Key × V) → List (Key × PyData) → Prop := Paired fun p q => p.1 = q.1 ∧ Dt K G p.2 q.2
def MOk (K : Frg) (G : Hp) (ρ : List Addr) (H : Hp) (a : Addr) : MO → Prop
  | .gone => True
  | .lst ds => ∃ xs, H a = some (.lst xs) ∧ DtA K G xs ds
  | .dct kvs => ∃ ys, H a = some (.dK ys) ∧ KvR K G ys kvs
  | .ins c fs => ∃ C dx ys, PySem.W.nsIn K mainGlobals c = some (some (.ref C)) ∧ H a = some (.ins C dx ys) ∧ FdR K G ys fs
structure RelM (K : Frg) (H : Hp) (ρ : List Addr) (m : Mem) : Prop where
  len : ρ.length = m.length
  nd : ρ.Nodup
  al : ∀ a ∈ ρ, H a ≠ none
  ok : ∀ (i : Nat) (a : Addr) (o : MO), ρ[i]? = some a → m[i]? = some o → MOk K (hid ρ m H) ρ H a o
structure EnvR (K : Frg) (G : Hp) (ρ : List Addr) (σ : L2.St) (e : Env') : Prop where
  len : σ.length = e.length
  get : ∀ (i : Nat) (x : EV), e[i]? = some (some x) → ∃ v, σ[i]? = some (some v) ∧ EvR K G ρ v x
/-- how a state goes on -/
structure Gr (ρ : List Addr) (m : Mem) (H : Hp) (ρ' : List Addr) (m' : Mem) (H' : Hp) : Prop where
  pre : ρ <+: ρ'
  same : Same (hid ρ m H) (hid ρ' m' H')
section
variable {K : Frg} {ρ ρ' ρ'' : List Addr} {m m' m'' : Mem} {H H' H'' : Hp} {G G' : Hp}
theorem Gr.refl : Gr ρ m H ρ m H := ⟨List.prefix_refl _, Same.refl _⟩
theorem Gr.trans (a : Gr ρ m H ρ' m' H') (b : Gr ρ' m' H' ρ'' m'' H'') : Gr ρ m H ρ'' m'' H'' := ⟨a.pre.trans b.pre, a.same.trans b.same⟩
theorem pre_get {i : Nat} {a : Addr} (h : ρ <+: ρ') (e : ρ[i]? = some a) : ρ'[i]? = some a := by
  obtain ⟨t, rfl⟩ := h
  rw [List.getElem?_append_left]
  · exact e
  · exact (List.getElem?_eq_some_iff.mp e).1
theorem FdR.mono (e : Same G G') : ∀ {ys : List (Str × V)} {fs : List (Str × PyData)}, FdR K G ys fs → FdR K G' ys fs
  | _, _, .nil => .nil
  | _, _, .cons h q => .cons ⟨h.1, Dt.mono e _ h.2⟩ (FdR.mono e q)
mutual
theorem EvR.mono' (e : Same G G') (p : ρ <+: ρ') : ∀ (x : EV) {v : V}, EvR K G ρ v x → EvR K G' ρ' v x
  | .d x, _, h => by rw [EvR] at h ⊢; exact Dt.mono e x h
  | .l i, _, h => by rw [EvR] at h ⊢; obtain ⟨a, h1, h2⟩ := h; exact ⟨a, pre_get p h1, h2⟩
  | .f ds, _, h => by rw [EvR] at h ⊢; obtain ⟨a, xs, h1, h2, h3⟩ := h; exact ⟨a, xs, h1, e.seq h2, DtA.mono e _ h3⟩
  | .t xs, _, h => by rw [EvR] at h ⊢; obtain ⟨a, vs, h1, h2, h3⟩ := h; exact ⟨a, vs, h1, sqt_same e h2, EvAll.mono' e p xs h3⟩
  | .o c fs, _, h => by rw [EvR] at h ⊢; obtain ⟨a, C, dx, ys, h1, h2, h3, h4⟩ := h; exact ⟨a, C, dx, ys, h1, h2, e _ _ h3, h4.mono e⟩
theorem EvAll.mono' (e : Same G G') (p : ρ <+: ρ') : ∀ (xs : List EV) {vs : List V}, EvAll K G ρ vs xs → EvAll K G' ρ' vs xs
  | [], _, h => by rw [EvAll] at h ⊢; exact h
  | x :: xs, _, h => by rw [EvAll] at h ⊢; obtain ⟨w, ws, h1, h2, h3⟩ := h; exact ⟨w, ws, h1, EvR.mono' e p x h2, EvAll.mono' e p xs h3⟩
end
theorem EvR.mono {v : V} {x : EV} (e : Same G G') (p : ρ <+: ρ') (h : EvR K G ρ v x) : EvR K G' ρ' v x := EvR.mono' e p x h
theorem EvR.gr {v : V} {x : EV} (g : Gr ρ m H ρ' m' H') (h : EvR K (hid ρ m H) ρ v x) : EvR K (hid ρ' m' H') ρ' v x := EvR.mono g.same g.pre h
theorem EnvR.gr {σ : L2.St} {e : Env'} (g : Gr ρ m H ρ' m' H') (h : EnvR K (hid ρ m H) ρ σ e) : EnvR K (hid ρ' m' H') ρ' σ e :=
  ⟨h.len, fun i x hx => let ⟨v, h1, h2⟩ := h.get i x hx; ⟨v, h1, h2.gr g⟩⟩
theorem KvR.mono (e : Same G G') : ∀ {ys : List (Key × V)} {kvs : List (Key × PyData)}, KvR K G ys kvs → KvR K G' ys kvs
  | _, _, .nil => .nil
  | _, _, .cons h q => .cons ⟨h.1, Dt.mono e _ h.2⟩ (KvR.mono e q)
theorem MOk.mono {a : Addr} {o : MO} (e : Same G G') (p : ρ <+: ρ') (ha : H a = H' a ∨ Same H H') (h : MOk K G ρ H a o) : MOk K G' ρ' H' a o := by
  have tr : ∀ u, H a = some u → H' a = some u := fun u hu => ha.elim (fun z => z ▸ hu) fun z => z _ _ hu
  cases o with
  | gone => trivial
  | lst ds => obtain ⟨xs, h1, h2⟩ := h; exact ⟨xs, tr _ h1, DtA.mono e ds h2⟩
  | dct kvs => obtain ⟨ys, h1, h2⟩ := h; exact ⟨ys, tr _ h1, KvR.mono e h2⟩
  | ins c fs => obtain ⟨C, dx, ys, h0, h1, h2⟩ := h; exact ⟨C, dx, ys, h0, tr _ h1, FdR.mono e h2⟩
theorem RelM.hidden (r : RelM K H ρ m) {a : Addr} (h : Hid ρ m a) : a ∈ ρ := let ⟨i, o, h1, _⟩ := h; List.mem_of_getElem? h1
/-- a heap that only grew -/
theorem hid_same (s : Same H H') : Same (hid ρ m H) (hid ρ m H') := fun b o h => by
  obtain ⟨h1, h2⟩ := hid_some h
  rw [hid_no h2]; exact s _ _ h1
theorem RelM.grow (r : RelM K H ρ m) (s : Same H H') : RelM K H' ρ m ∧ Gr ρ m H ρ m H' :=
  ⟨⟨r.len, r.nd, fun a h e => r.al a h (s.free e), fun i a o h1 h2 => (r.ok i a o h1 h2).mono (hid_same s) (List.prefix_refl _) (.inr s)⟩, List.prefix_refl _, hid_same s⟩
/-- a new thing stands at p -/
theorem RelM.new (r : RelM K H ρ m) {p : Addr} {o : HO} (hp : H p = none) : RelM K (upd H p o) ρ m ∧ Gr ρ m H ρ m (upd H p o) ∧ hid ρ m (upd H p o) p = some o := by
  have s : Same H (upd H p o) := fun b u h => by rw [upd_ne (ne_of_none h hp)]; exact h
  refine ⟨(r.grow s).1, (r.grow s).2, ?_⟩
  rw [hid_no, upd_same]
  intro z
  exact r.al p (r.hidden z) hp
end

/-! ### looking at a thing as data -/
def kvD (kvs : List (Key × PyData)) : List (PyData × PyData) := kvs.map fun p => (keyD p.1, p.2)
def vw (m : Mem) : EV → Option PyData
  | .d x => some x
  | .l i => match m[i]? with
    | some (.lst ds) => some (.list ds)
    | some (.dct kvs) => some (.dict (kvD kvs))
    | _ => none
  | .f _ => none
  | .t _ => none
  | .o _ _ => none
inductive VwR (K : Frg) (G H : Hp) : V → PyData → Prop
  | d {v : V} {x : PyData} (h : Dt K G v x) : VwR K G H v x
  | l {a : Addr} {xs : List V} {ds : List PyData} (h : H a = some (.lst xs)) (q : DtA K G xs ds) : VwR K G H (.ref a) (.list ds)
  | k {a : Addr} {ys : List (Key × V)} {kvs : List (Key × PyData)} (h : H a = some (.dK ys)) (q : KvR K G ys kvs) : VwR K G H (.ref a) (.dict (kvD kvs))
section
variable {K : Frg} {ρ ρ' : List Addr} {m m' : Mem} {H H' : Hp} {G G' : Hp}
theorem kv_dtk : ∀ {ys : List (Key × V)} {kvs : List (Key × PyData)}, KvR K G ys kvs → DtK K G ys (kvD kvs)
  | _, _, .nil => .nil
  | (k, v) :: _, (k', d) :: _, .cons h q => by
    obtain ⟨h1, h2⟩ := h
    have h1' : k = k' := h1
    subst h1'
    exact .cons h2 (kv_dtk q)
theorem vw_of {v : V} {r : EV} {x : PyData} (R : RelM K H ρ m) (h : EvR K (hid ρ m H) ρ v r) (e : vw m r = some x) : VwR K (hid ρ m H) H v x := by
  cases r with
  | d y => cases e; exact .d h
  | f ds => cases e
  | t xs => cases e
  | o c fs => cases e
  | l i =>
    obtain ⟨a, h1, rfl⟩ := h
    simp only [vw] at e
    cases q : m[i]? with
    | none => rw [q] at e; cases e
    | some o =>
      rw [q] at e
      have ok := R.ok i a o h1 q
      cases o with
      | gone => cases e
      | lst ds => cases e; obtain ⟨xs, h2, h3⟩ := ok; exact .l h2 h3
      | dct kvs => cases e; obtain ⟨ys, h2, h3⟩ := ok; exact .k h2 h3
      | ins c fs => cases e
/-- read in the whole heap -/
theorem VwR.full {v : V} {x : PyData} (s : Same G H) (h : VwR K G H v x) : Dt K H v x := by
  cases h with
  | d h => exact Dt.mono s x h
  | l h q => exact .lst h (DtA.mono s _ q)
  | k h q => exact .dic h (DtK.mono s _ (kv_dtk q))
theorem VwR.list {v : V} {ds : List PyData} (s : Same G H) (h : VwR K G H v (.list ds)) : ∃ a xs, v = .ref a ∧ H a = some (.lst xs) ∧ DtA K G xs ds := by
  cases h with
  | d h => cases h with | lst h q => exact ⟨_, _, rfl, s _ _ h, q⟩
  | l h q => exact ⟨_, _, rfl, h, q⟩
theorem VwR.tuple {v : V} {ds : List PyData} (s : Same G H) (h : VwR K G H v (.tuple ds)) : ∃ a xs, v = .ref a ∧ SqT K H a xs ∧ DtA K G xs ds := by
  cases h with
  | d h => cases h with | tup h q => exact ⟨_, _, rfl, sqt_same s h, q⟩
theorem VwR.int {v : V} {i : Int} (h : VwR K G H v (.int i)) : v = .int i := by cases h with | d h => cases h; rfl
theorem VwR.bl {v : V} {i : Bool} (h : VwR K G H v (.bool i)) : v = .bl i := by cases h with | d h => cases h; rfl
theorem VwR.str {v : V} {i : Str} (h : VwR K G H v (.str i)) : v = .str i := by cases h with | d h => cases h; rfl
theorem VwR.non {v : V} (h : VwR K G H v .none) : v = .non := by cases h with | d h => cases h; rfl
theorem VwR.gr {v : V} {x : PyData} (g : Same G G') (hh : Same H H') (h : VwR K G H v x) : VwR K G' H' v x := by
  cases h with
  | d h => exact .d (Dt.mono g x h)
  | l h q => exact .l (hh _ _ h) (DtA.mono g _ q)
  | k h q => exact .k (hh _ _ h) (KvR.mono g q)
end

/-! ### a whole look, whatever stands where -/
mutual
def vwF (m : Mem) : EV → Option PyData
  | .d x => some x
  | .l i => vw m (.l i)
  | .f _ => none
  | .o _ _ => none
  | .t xs => match vwFs m xs with
    | some ds => some (.tuple ds)
    | none => none
def vwFs (m : Mem) : List EV → Option (List PyData)
  | [] => some []
  | x :: xs => match vwF m x with
    | some d => match vwFs m xs with
      | some ds => some (d :: ds)
      | none => none
    | none => none
end
section
variable {K : Frg} {ρ : List Addr} {m : Mem} {H : Hp}
mutual
theorem vwF_of (R : RelM K H ρ m) : ∀ (r : EV) {v : V} {x : PyData}, EvR K (hid ρ m H) ρ v r → vwF m r = some x → Dt K H v x
  | .d y, _, _, h, e => by rw [EvR] at h; rw [vwF] at e; cases e; exact Dt.mono hid_le _ h
  | .l i, _, _, h, e => by rw [vwF] at e; exact (vw_of R h e).full hid_le
  | .f ds, _, _, h, e => by rw [vwF] at e; cases e
  | .o c fs, _, _, h, e => by rw [vwF] at e; cases e
  | .t xs, _, _, h, e => by
    rw [EvR] at h
    rw [vwF] at e
    obtain ⟨a, vs, rfl, h1, h2⟩ := h
    cases q : vwFs m xs with
    | none => rw [q] at e; cases e
    | some ds => rw [q] at e; cases e; exact .tup (sqt_same hid_le h1) (vwFs_of R xs h2 q)
theorem vwFs_of (R : RelM K H ρ m) : ∀ (rs : List EV) {vs : List V} {xs : List PyData}, EvAll K (hid ρ m H) ρ vs rs → vwFs m rs = some xs → DtA K H vs xs
  | [], _, _, h, e => by rw [EvAll] at h; rw [vwFs] at e; cases e; subst h; exact .nil
  | r :: rs, _, _, h, e => by
    rw [EvAll] at h
    rw [vwFs] at e
    obtain ⟨w, ws, rfl, h1, h2⟩ := h
    cases q1 : vwF m r with
    | none => rw [q1] at e; cases e
    | some d =>
      rw [q1] at e
      cases q2 : vwFs m rs with
      | none => rw [q2] at e; cases e
      | some ds => rw [q2] at e; cases e; exact .cons (vwF_of R r h1 q1) (vwFs_of R rs h2 q2)
end
end

/-! ### readings -/
abbrev ME := Env' → Mem → Option (EV × Mem)
abbrev MB := Env' → Mem → Option (Bool × Mem)
abbrev MA := Env' → Mem → Option (List EV × Mem)
def EvA (K : Frg) (G : Hp) (ρ : List Addr) : List V → List EV → Prop := Paired fun v x => EvR K G ρ v x
theorem evA_all {K : Frg} {G : Hp} {ρ : List Addr} : ∀ {vs : List V} {xs : List EV}, EvA K G ρ vs xs → EvAll K G ρ vs xs
  | _, _, .nil => by rw [EvAll]
  | _, _, .cons h q => by rw [EvAll]; exact ⟨_, _, rfl, h, evA_all q⟩
theorem all_evA {K : Frg} {G : Hp} {ρ : List Addr} : ∀ {xs : List EV} {vs : List V}, EvAll K G ρ vs xs → EvA K G ρ vs xs
  | [], _, h => by rw [EvAll] at h; subst h; exact .nil
  | x :: xs, _, h => by rw [EvAll] at h; obtain ⟨w, ws, rfl, h1, h2⟩ := h; exact .cons h1 (all_evA h2)
theorem EvA.gr {K : Frg} {ρ ρ' : List Addr} {m m' : Mem} {H H' : Hp} (g : Gr ρ m H ρ' m' H') : ∀ {vs : List V} {xs : List EV}, EvA K (hid ρ m H) ρ vs xs → EvA K (hid ρ' m' H') ρ' vs xs
  | _, _, .nil => .nil
  | _, _, .cons h q => .cons (h.gr g) (EvA.gr g q)
def rd (K : Frg) (f : ME) : TE := fun σ H Q => ∃ ρ e m, RelM K H ρ m ∧ EnvR K (hid ρ m H) ρ σ e ∧ ∃ r m', f e m = some (r, m') ∧
  ∀ v H' ρ', Gr ρ m H ρ' m' H' → RelM K H' ρ' m' → EvR K (hid ρ' m' H') ρ' v r → Q v H'
def rb (K : Frg) (f : MB) : TT := fun σ H Q => ∃ ρ e m, RelM K H ρ m ∧ EnvR K (hid ρ m H) ρ σ e ∧ ∃ r m', f e m = some (r, m') ∧
  ∀ H' ρ', Gr ρ m H ρ' m' H' → RelM K H' ρ' m' → Q r H'
def ra (K : Frg) (f : MA) : TA := fun σ H Q => ∃ ρ e m, RelM K H ρ m ∧ EnvR K (hid ρ m H) ρ σ e ∧ ∃ rs m', f e m = some (rs, m') ∧
  ∀ vs H' ρ', Gr ρ m H ρ' m' H' → RelM K H' ρ' m' → EvA K (hid ρ' m' H') ρ' vs rs → Q vs H'
theorem PE.imp {X : Cx} {e : Expr} {t t' : TE} (h : PE X e t) (w : ∀ σ H Q, t' σ H Q → t σ H Q) : PE X e t' := ⟨fun pins s σ H Q I q => h.run pins s σ H Q I (w _ _ _ q)⟩
theorem PT.imp {X : Cx} {e : Expr} {t t' : TT} (h : PT X e t) (w : ∀ σ H Q, t' σ H Q → t σ H Q) : PT X e t' := ⟨fun pins s σ H Q I q => h.run pins s σ H Q I (w _ _ _ q)⟩
theorem PW.imp {X : Cx} {e : Expr} {t t' : TT} (h : PW X e t) (w : ∀ σ H Q, t' σ H Q → t σ H Q) : PW X e t' := ⟨fun wh pins s σ H Q I q => h.run wh pins s σ H Q I (w _ _ _ q)⟩
theorem PA.imp {X : Cx} {e : List Expr} {t t' : TA} (h : PA X e t) (w : ∀ σ H Q, t' σ H Q → t σ H Q) : PA X e t' := ⟨fun pos pins s σ H Q I q => h.run pos pins s σ H Q I (w _ _ _ q)⟩
theorem PS.imp {X : Cx} {e : Stmt} {t t' : TS} (h : PS X e t) (w : ∀ D σ H, t' D σ H → t D σ H) : PS X e t' := ⟨fun pins s σ H D I q => h.run pins s σ H D I (w _ _ _ q)⟩
theorem PSs.imp {X : Cx} {e : List Stmt} {t t' : TS} (h : PSs X e t) (w : ∀ D σ H, t' D σ H → t D σ H) : PSs X e t' := ⟨fun pins s σ H D I q => h.run pins s σ H D I (w _ _ _ q)⟩

section
variable {K : Frg} {σ : L2.St} {H : Hp} {ρ : List Addr} {e : Env'} {m m1 m2 : Mem}
/-- one expression's reading from its value -/
theorem rd_mk {f : ME} {r : EV} {Q : VK} (R : RelM K H ρ m) (E : EnvR K (hid ρ m H) ρ σ e) (h : f e m = some (r, m1))
    (k : ∀ v H' ρ', Gr ρ m H ρ' m1 H' → RelM K H' ρ' m1 → EnvR K (hid ρ' m1 H') ρ' σ e → EvR K (hid ρ' m1 H') ρ' v r → Q v H') : rd K f σ H Q :=
  ⟨ρ, e, m, R, E, r, m1, h, fun v H' ρ' g R' q => k v H' ρ' g R' (E.gr g) q⟩
theorem rb_mk {f : MB} {r : Bool} {Q : Bool → Hp → Prop} (R : RelM K H ρ m) (E : EnvR K (hid ρ m H) ρ σ e) (h : f e m = some (r, m1))
    (k : ∀ H' ρ', Gr ρ m H ρ' m1 H' → RelM K H' ρ' m1 → EnvR K (hid ρ' m1 H') ρ' σ e → Q r H') : rb K f σ H Q :=
  ⟨ρ, e, m, R, E, r, m1, h, fun H' ρ' g R' => k H' ρ' g R' (E.gr g)⟩
theorem ra_mk {f : MA} {r : List EV} {Q : List V → Hp → Prop} (R : RelM K H ρ m) (E : EnvR K (hid ρ m H) ρ σ e) (h : f e m = some (r, m1))
    (k : ∀ v H' ρ', Gr ρ m H ρ' m1 H' → RelM K H' ρ' m1 → EnvR K (hid ρ' m1 H') ρ' σ e → EvA K (hid ρ' m1 H') ρ' v r → Q v H') : ra K f σ H Q :=
  ⟨ρ, e, m, R, E, r, m1, h, fun v H' ρ' g R' q => k v H' ρ' g R' (E.gr g) q⟩
end

/-! ### names, constants, arguments -/
def eVar (i : Nat) : ME := fun e m => match e[i]? with
  | some (some x) => some (x, m)
  | _ => none
def eC (x : PyData) : ME := fun _ m => some (.d x, m)
def aNil : MA := fun _ m => some ([], m)
def aCons (f : ME) (g : MA) : MA := fun e m => match f e m with
  | some (x, m1) => match g e m1 with
    | some (xs, m2) => some (x :: xs, m2)
    | none => none
  | none => none
section
variable {X : Cx} {pos : Pos} {a b : Expr}
theorem q_var {i : Nat} {x : Expr} (h : PE X x (tVar i)) : PE X x (rd X.K (eVar i)) := PE.imp h fun σ H Q ⟨ρ, e, m, R, E, r, m', hr, k⟩ => by
  unfold eVar at hr
  cases q : e[i]? with
  | none => rw [q] at hr; cases hr
  | some y =>
    rw [q] at hr
    cases y with
    | none => cases hr
    | some y =>
      cases hr
      obtain ⟨v, h1, h2⟩ := E.get i _ q
      exact ⟨v, h1, k v H ρ .refl R h2⟩
theorem q_c {x : Expr} {v : V} {d : PyData} (h : PE X x (tC v)) (hd : ∀ G, Dt X.K G v d) : PE X x (rd X.K (eC d)) := PE.imp h fun σ H Q ⟨ρ, e, m, R, E, r, m', hr, k⟩ => by
  cases hr
  exact k v H ρ .refl R (hd _)
theorem q_int {i : Int} {j pos} : PE X (.Constant (.int i) j pos) (rd X.K (eC (.int i))) := q_c pe_int fun _ => .int i
theorem q_bl {i : Bool} {j pos} : PE X (.Constant (.bool i) j pos) (rd X.K (eC (.bool i))) := q_c pe_bl fun _ => .bl i
theorem q_non {j pos} : PE X (.Constant .none j pos) (rd X.K (eC .none)) := q_c pe_non fun _ => .non
theorem q_str {x} {j pos} : PE X (.Constant (.str x) j pos) (rd X.K (eC (.str x))) := q_c pe_str fun _ => .str x
theorem qa_nil : PA X [] (ra X.K aNil) := PA.imp pa_nil fun σ H Q ⟨ρ, e, m, R, E, r, m', hr, k⟩ => by
  cases hr
  exact k [] H ρ .refl R .nil
theorem qa_cons {es : List Expr} {f : ME} {g : MA} (ha : PE X a (rd X.K f)) (hr : PA X es (ra X.K g)) (hs : starEach (a :: es) X.env = (false, eval a X.env) :: starEach es X.env := by rfl) : PA X (a :: es) (ra X.K (aCons f g)) :=
  PA.imp (pa_cons ha hr hs) fun σ H Q ⟨ρ, e, m, R, E, r, m', hr, k⟩ => by
    unfold aCons at hr
    cases q1 : f e m with
    | none => rw [q1] at hr; cases hr
    | some p =>
      obtain ⟨x, m1⟩ := p
      rw [q1] at hr
      dsimp only at hr
      cases q2 : g e m1 with
      | none => rw [q2] at hr; cases hr
      | some p =>
        obtain ⟨xs, m2⟩ := p
        rw [q2] at hr
        cases hr
        refine rd_mk R E q1 fun v1 H1 ρ1 g1 R1 E1 r1 => ?_
        refine ra_mk R1 E1 q2 fun v2 H2 ρ2 g2 R2 E2 r2 => ?_
        exact k _ H2 ρ2 (g1.trans g2) R2 (.cons (r1.gr g2) r2)
end
end DL
set_option Elab.async false
set_option linter.all false
set_option maxRecDepth 100000
set_option maxHeartbeats 4000000
namespace DL
open PySem PySem.Spec PyProof.Rows L2

/-! ### operations of two values, by data -/
def rop (K : Frg) (g : PyData → PyData → Option PyData) : R2 := fun x y H Q => ∃ ρ m dx dy z, RelM K H ρ m ∧ VwR K (hid ρ m H) H x dx ∧ VwR K (hid ρ m H) H y dy ∧ g dx dy = some z ∧
  ∀ v H', Gr ρ m H ρ m H' → RelM K H' ρ m → Dt K (hid ρ m H') v z → Q v H'
def eBin (g : PyData → PyData → Option PyData) (fa fb : ME) : ME := fun e m => match fa e m with
  | some (x, m1) => match fb e m1 with
    | some (y, m2) => match vw m2 x, vw m2 y with
      | some dx, some dy => match g dx dy with
        | some z => some (.d z, m2)
        | none => none
      | _, _ => none
    | none => none
  | none => none
theorem eBin_some {g : PyData → PyData → Option PyData} {fa fb : ME} {e : Env'} {m m' : Mem} {r : EV} (h : eBin g fa fb e m = some (r, m')) :
    ∃ x m1 y dx dy z, fa e m = some (x, m1) ∧ fb e m1 = some (y, m') ∧ vw m' x = some dx ∧ vw m' y = some dy ∧ g dx dy = some z ∧ r = .d z := by
  unfold eBin at h
  cases q1 : fa e m with
  | none => rw [q1] at h; cases h
  | some p =>
    obtain ⟨x, m1⟩ := p
    rw [q1] at h; dsimp only at h
    cases q2 : fb e m1 with
    | none => rw [q2] at h; cases h
    | some p =>
      obtain ⟨y, m2⟩ := p
      rw [q2] at h; dsimp only at h
      cases q3 : vw m2 x with
      | none => rw [q3] at h; cases h
      | some dx =>
        cases q4 : vw m2 y with
        | none => rw [q3, q4] at h; cases h
        | some dy =>
          rw [q3, q4] at h; dsimp only at h
          cases q5 : g dx dy with
          | none => rw [q5] at h; cases h
          | some z => rw [q5] at h; cases h; exact ⟨x, m1, y, dx, dy, z, rfl, q2, q3, q4, q5, rfl⟩
section
variable {X : Cx} {pos : Pos} {a b : Expr} {fa fb : ME}
theorem rd_bin {K : Frg} {g : PyData → PyData → Option PyData} {σ : L2.St} {H : Hp} {Q : VK} (h : rd K (eBin g fa fb) σ H Q) : tOp (rop K g) (rd K fa) (rd K fb) σ H Q := by
  obtain ⟨ρ, e, m, R, E, r, m', hr, k⟩ := h
  obtain ⟨x, m1, y, dx, dy, z, q1, q2, q3, q4, q5, rfl⟩ := eBin_some hr
  refine rd_mk R E q1 fun v1 H1 ρ1 g1 R1 E1 r1 => ?_
  refine rd_mk R1 E1 q2 fun v2 H2 ρ2 g2 R2 E2 r2 => ?_
  exact ⟨ρ2, m', dx, dy, z, R2, vw_of R2 (r1.gr g2) q3, vw_of R2 r2 q4, q5, fun v H' g3 R' hv => k v H' ρ2 ((g1.trans g2).trans g3) R' hv⟩
theorem q_bin {op : Operator} {g : PyData → PyData → Option PyData} (ho : OpR X (binaryOp op) (rop X.K g)) (ha : PE X a (rd X.K fa)) (hb : PE X b (rd X.K fb)) : PE X (.BinOp a op b pos) (rd X.K (eBin g fa fb)) :=
  PE.imp (pe_op ho ha hb) fun _ _ _ h => rd_bin h
theorem q_cmp {op : CmpOp} {g : PyData → PyData → Option PyData} (ho : OpR X (compareOp op) (rop X.K g)) (ha : PE X a (rd X.K fa)) (hb : PE X b (rd X.K fb)) (hm : behindInMarks op b = false := by first | exact nobehind _ (by decide) (by decide) | rfl) :
    PE X (.Compare a [op] [b] pos) (rd X.K (eBin g fa fb)) :=
  PE.imp (pe_cmpR ho ha hb hm) fun _ _ _ h => rd_bin h

/-- an old value, at the heap as it stands -/
theorem rop_k {K : Frg} {ρ : List Addr} {m : Mem} {H : Hp} {z : PyData} {Q : VK} {v : V} (R : RelM K H ρ m) (k : ∀ v H', Gr ρ m H ρ m H' → RelM K H' ρ m → Dt K (hid ρ m H') v z → Q v H') (h : Dt K (hid ρ m H) v z) : Q v H := k v H .refl R h
/-- a new list -/
theorem rop_new {K : Frg} {ρ : List Addr} {m : Mem} {H : Hp} {zs : List PyData} {xs : List V} {Q : VK} {p : Addr} (R : RelM K H ρ m) (k : ∀ v H', Gr ρ m H ρ m H' → RelM K H' ρ m → Dt K (hid ρ m H') v (.list zs) → Q v H')
    (h : DtA K (hid ρ m H) xs zs) (hp : H p = none) : Q (.ref p) (upd H p (.lst xs)) := by
  obtain ⟨R', g, e⟩ := R.new (o := .lst xs) hp
  exact k _ _ g R' (.lst e (DtA.mono g.same _ h))
theorem rop_newT {K : Frg} {ρ : List Addr} {m : Mem} {H : Hp} {zs : List PyData} {xs : List V} {Q : VK} {p : Addr} (R : RelM K H ρ m) (k : ∀ v H', Gr ρ m H ρ m H' → RelM K H' ρ m → Dt K (hid ρ m H') v (.tuple zs) → Q v H')
    (h : DtA K (hid ρ m H) xs zs) (hp : H p = none) : Q (.ref p) (upd H p (.tup xs)) := by
  obtain ⟨R', g, e⟩ := R.new (o := .tup xs) hp
  exact k _ _ g R' (.tup (.inl (.inl e)) (DtA.mono g.same _ h))

/-! ### + - * // % -/
def addD : PyData → PyData → Option PyData
  | .int i, .int j => some (.int (i + j))
  | .str i, .str j => if i.length + j.length ≤ sizeLine then some (.str (i ++ j)) else none
  | .list i, .list j => if i.length + j.length ≤ sizeLine then some (.list (i ++ j)) else none
  | .tuple i, .tuple j => if i.length + j.length ≤ sizeLine then some (.tuple (i ++ j)) else none
  | .bool i, .int j => some (.int ((if i = true then (1 : Int) else 0) + j))
  | _, _ => none
theorem od_add : OpR X (binaryOp .Add) (rop X.K addD) := by
  intro pins s σ H x y v u Q I rx ry h
  obtain ⟨ρ, m, dx, dy, z, R, hx, hy, hz, k⟩ := h
  unfold addD at hz
  split at hz
  · cases hz
    cases hx.int; cases hy.int
    exact op_add pins s σ H _ _ v u Q I rx ry ⟨_, _, rfl, rfl, rop_k R k (.int _)⟩
  · split at hz
    · cases hz
      cases hx.str; cases hy.str
      exact op_add_str pins s σ H _ _ v u Q I rx ry ⟨_, _, rfl, rfl, by assumption, rop_k R k (.str _)⟩
    · cases hz
  · split at hz
    · cases hz
      rename_i hl
      obtain ⟨a, xs, rfl, h1, h2⟩ := hx.list hid_le
      obtain ⟨b, ys, rfl, h3, h4⟩ := hy.list hid_le
      exact op_cat pins s σ H _ _ v u Q I rx ry ⟨a, b, xs, ys, rfl, rfl, h1, h3, by rw [h2.len, h4.len]; exact hl, fun p hp => rop_new R k (h2.app h4) hp⟩
    · cases hz
  · split at hz
    · cases hz
      rename_i hl
      have hx0 := hx
      have hy0 := hy
      cases hx with
      | d hx =>
      cases hy with
      | d hy =>
      cases hx with
      | @tup a xs _ h1 h2 =>
      cases hy with
      | @tup b ys _ h3 h4 =>
      refine op_catA pins s σ H _ _ v u Q I rx ry ⟨a, b, xs, ys, rfl, rfl, sqt_same hid_le h1, sqt_same hid_le h3, by rw [h2.len, h4.len]; exact hl, fun e => ?_, fun _ e => ?_, fun _ _ p hp => rop_newT R k (h2.app h4) hp⟩
      · subst e
        cases h2
        exact rop_k R k (.tup h3 h4)
      · subst e
        cases h4
        refine rop_k R k ?_
        rw [List.append_nil]
        exact .tup h1 h2
    · cases hz
  · cases hz
    cases hx.bl; cases hy.int
    cases rx
    obtain ⟨t', rfl⟩ := ry
    exact IntBool.add_bool_int ⟨.int _, H, I.tok _, ⟨_, rfl⟩, rop_k R k (.int _)⟩
  · cases hz
def subD : PyData → PyData → Option PyData
  | .int i, .int j => some (.int (i - j))
  | .bool i, .int j => some (.int ((if i = true then (1 : Int) else 0) - j))
  | .int i, .bool j => some (.int (i - if j = true then (1 : Int) else 0))
  | _, _ => none
theorem od_sub : OpR X (binaryOp .Sub) (rop X.K subD) := by
  intro pins s σ H x y v u Q I rx ry h
  obtain ⟨ρ, m, dx, dy, z, R, hx, hy, hz, k⟩ := h
  unfold subD at hz
  split at hz
  · cases hz
    cases hx.int; cases hy.int
    exact op_sub pins s σ H _ _ v u Q I rx ry ⟨_, _, rfl, rfl, rop_k R k (.int _)⟩
  · cases hz
    cases hx.bl; cases hy.int
    cases rx
    obtain ⟨t', rfl⟩ := ry
    exact IntBool.sub_bool_int ⟨.int _, H, I.tok _, ⟨_, rfl⟩, rop_k R k (.int _)⟩
  · cases hz
    cases hx.int; cases hy.bl
    cases ry
    obtain ⟨t, rfl⟩ := rx
    exact IntBool.sub_int_bool ⟨.int _, H, I.tok _, ⟨_, rfl⟩, rop_k R k (.int _)⟩
  · cases hz
/-- the times of a list or a tuple: few -/
def mulD : PyData → PyData → Option PyData
  | .int i, .int j => if i.natAbs.log2 + j.natAbs.log2 < 1000000 then some (.int (i * j)) else none
  | .list xs, .int k => if 2 ≤ k ∧ k ≤ 1000 ∧ xs.length ≤ 1000 then some (.list (List.replicate k.toNat xs).flatten) else none
  | .tuple xs, .int k => if 2 ≤ k ∧ k ≤ 1000 ∧ xs.length ≤ 1000 ∧ xs ≠ [] then some (.tuple (List.replicate k.toNat xs).flatten) else none
  | .int i, .bool j => some (.int (i * if j = true then (1 : Int) else 0))
  | _, _ => none
theorem DtA.rep {K : Frg} {G : Hp} {vs : List V} {ds : List PyData} (h : DtA K G vs ds) : ∀ n : Nat, DtA K G (List.replicate n vs).flatten (List.replicate n ds).flatten
  | 0 => .nil
  | n + 1 => by rw [List.replicate_succ, List.replicate_succ, List.flatten_cons, List.flatten_cons]; exact h.app (DtA.rep h n)
theorem od_mul : OpR X (binaryOp .Mult) (rop X.K mulD) := by
  intro pins s σ H x y v u Q I rx ry h
  obtain ⟨ρ, m, dx, dy, z, R, hx, hy, hz, k⟩ := h
  unfold mulD at hz
  split at hz
  · split at hz
    · cases hz
      cases hx.int; cases hy.int
      exact op_mulW pins s σ H _ _ v u Q I rx ry ⟨_, _, rfl, rfl, by assumption, rop_k R k (.int _)⟩
    · cases hz
  · split at hz
    · cases hz
      rename_i hl
      cases hy.int
      obtain ⟨a, xs, rfl, h1, h2⟩ := hx.list hid_le
      refine op_rep pins s σ H _ _ v u Q I rx ry ⟨a, _, xs, rfl, rfl, h1, by omega, by omega, ?_, fun p hp => ?_⟩
      · rw [h2.len, sizeLine_eq]
        exact Nat.le_trans (Nat.mul_le_mul hl.2.2 (show _ ≤ 1000 by omega)) (by decide)
      · exact rop_new R k (h2.rep _) hp
    · cases hz
  · split at hz
    · cases hz
      rename_i hl
      cases hy.int
      obtain ⟨a, xs, rfl, h1, h2⟩ := hx.tuple hid_le
      refine op_repT pins s σ H _ _ v u Q I rx ry ⟨a, _, xs, rfl, rfl, h1, ?_, hl.1, hl.2.1, by rw [h2.len]; exact hl.2.2.1, fun p hp => ?_⟩
      · intro e
        subst e
        cases h2
        exact hl.2.2.2 rfl
      · exact rop_newT R k (h2.rep _) hp
    · cases hz
  · cases hz
    cases hx.int; cases hy.bl
    cases ry
    obtain ⟨t, rfl⟩ := rx
    exact IntBool.mul_int_bool ⟨.int _, H, I.tok _, ⟨_, rfl⟩, rop_k R k (.int _)⟩
  · cases hz
def fdivD : PyData → PyData → Option PyData
  | .int i, .int j => if 0 < j ∧ j.natAbs.log2 < 9000 then some (.int (i / j)) else none
  | _, _ => none
theorem od_fdiv : OpR X (binaryOp .FloorDiv) (rop X.K fdivD) := by
  intro pins s σ H x y v u Q I rx ry h
  obtain ⟨ρ, m, dx, dy, z, R, hx, hy, hz, k⟩ := h
  unfold fdivD at hz
  split at hz
  · split at hz
    · cases hz
      cases hx.int; cases hy.int
      exact op_fdivW pins s σ H _ _ v u Q I rx ry ⟨_, _, rfl, rfl, by assumption, rop_k R k (.int _)⟩
    · cases hz
  · cases hz
def modD : PyData → PyData → Option PyData
  | .int i, .int j => if 0 < j then some (.int (i % j)) else none
  | _, _ => none
theorem od_mod : OpR X (binaryOp .Mod) (rop X.K modD) := by
  intro pins s σ H x y v u Q I rx ry h
  obtain ⟨ρ, m, dx, dy, z, R, hx, hy, hz, k⟩ := h
  unfold modD at hz
  split at hz
  · split at hz
    · cases hz
      cases hx.int; cases hy.int
      exact op_mod pins s σ H _ _ v u Q I rx ry ⟨_, _, rfl, rfl, by assumption, rop_k R k (.int _)⟩
    · cases hz
  · cases hz
def powD : PyData → PyData → Option PyData
  | .int i, .int j => if 0 ≤ j ∧ j ≤ 1000000 ∧ i.natAbs < 2 ^ 64 then some (.int (i ^ j.toNat)) else none
  | _, _ => none
theorem od_pow : OpR X (binaryOp .Pow) (rop X.K powD) := by
  intro pins s σ H x y v u Q I rx ry h
  obtain ⟨ρ, m, dx, dy, z, R, hx, hy, hz, k⟩ := h
  unfold powD at hz
  split at hz
  · split at hz
    · cases hz
      cases hx.int; cases hy.int
      exact op_pow pins s σ H _ _ v u Q I rx ry ⟨_, _, rfl, rfl, by assumption, rop_k R k (.int _)⟩
    · cases hz
  · cases hz

/-! ### comparisons -/
def cmpI (p : Int → Int → Bool) : PyData → PyData → Option PyData
  | .int i, .int j => some (.bool (p i j))
  | _, _ => none
theorem od_cmpI {op : CmpOp} {p : Int → Int → Bool} (ho : OpR X (compareOp op) (rI0 fun i j => .bl (p i j))) : OpR X (compareOp op) (rop X.K (cmpI p)) := by
  intro pins s σ H x y v u Q I rx ry h
  obtain ⟨ρ, m, dx, dy, z, R, hx, hy, hz, k⟩ := h
  unfold cmpI at hz
  split at hz
  · cases hz
    cases hx.int; cases hy.int
    exact ho pins s σ H _ _ v u Q I rx ry ⟨_, _, rfl, rfl, rop_k R k (.bl _)⟩
  · cases hz
abbrev ltD := cmpI fun i j => decide (i < j)
abbrev leD := cmpI fun i j => decide (i ≤ j)
abbrev gtD := cmpI fun i j => decide (j < i)
abbrev geD := cmpI fun i j => decide (j ≤ i)
theorem od_lt : OpR X (compareOp .Lt) (rop X.K ltD) := od_cmpI op_lt
theorem od_le : OpR X (compareOp .LtE) (rop X.K leD) := od_cmpI op_le
theorem od_gt : OpR X (compareOp .Gt) (rop X.K gtD) := od_cmpI op_gt
theorem od_ge : OpR X (compareOp .GtE) (rop X.K geD) := od_cmpI op_ge
mutual
theorem Dt.dp {K : Frg} {G : Hp} : ∀ (d : PyData) {v : V}, d.canLay0 = true → Dt K G v d → Dp K G v d
  | .none, _, _, h => by cases h; exact .non
  | .bool b, _, _, h => by cases h; exact .bl b
  | .int i, _, _, h => by cases h; exact .int i
  | .str x, _, _, h => by cases h; exact .str x
  | .list ds, _, c, h => by
    cases h with
    | lst h q => exact .lst (.inl (.inl h)) (DtA.dp ds (by simpa only [PyData.canLay0] using c) q)
  | .tuple ds, _, c, h => by
    cases h with
    | tup h q => exact .tup h (DtA.dp ds (by simpa only [PyData.canLay0] using c) q)
  | .dict ds, _, c, h => by simp [PyData.canLay0] at c
theorem DtA.dp {K : Frg} {G : Hp} : ∀ (ds : List PyData) {vs : List V}, PyData.canLayAll0 ds = true → DtA K G vs ds → DpAll K G vs ds
  | [], _, _, h => by cases h; exact .nil
  | d :: ds, _, c, h => by
    simp only [PyData.canLayAll0, Bool.and_eq_true] at c
    cases h with
    | cons h q => exact .cons (Dt.dp d c.1 h) (DtA.dp ds c.2 q)
end
/-- a list of something beside the empty list -/
def vsNil : PyData → PyData → Bool
  | .list (_ :: _), .list [] => true
  | _, _ => false
def eqD : PyData → PyData → Option PyData := fun x y => if SeqAt.shaped x = true ∧ SeqAt.shaped y = true then some (.bool (PyData.eqv x y)) else if vsNil x y = true then some (.bool false) else match x, y with
  | .str a, .str b => some (.bool (a == b))
  | .tuple (_ :: _), .tuple [] => some (.bool false)
  | _, _ => none
def neD : PyData → PyData → Option PyData := fun x y => if SeqAt.shaped x = true ∧ SeqAt.shaped y = true then some (.bool (!PyData.eqv x y)) else if vsNil x y = true then some (.bool true) else match x, y with
  | .str a, .str b => some (.bool (!(a == b)))
  | _, _ => none
theorem vsNil_v {K : Frg} {H : Hp} {x y : V} {dx dy : PyData} (h : vsNil dx dy = true) (hx : Dt K H x dx) (hy : Dt K H y dy) : ∃ a b v vs, x = .ref a ∧ y = .ref b ∧ H a = some (.lst (v :: vs)) ∧ H b = some (.lst []) := by
  unfold vsNil at h
  split at h
  · cases hx with
    | lst h1 q1 =>
    cases hy with
    | lst h2 q2 =>
    cases q1
    cases q2
    exact ⟨_, _, _, _, rfl, rfl, h1, h2⟩
  · cases h
theorem canLay_sh {d : PyData} (h : SeqAt.shaped d = true) : d.canLay0 = true := SeqAt.canLay_of_shaped h
/-- of two things, looked at as a whole -/
def ropF (K : Frg) (g : PyData → PyData → Option PyData) : R2 := fun x y H Q => ∃ ρ m dx dy z, RelM K H ρ m ∧ Dt K H x dx ∧ Dt K H y dy ∧ g dx dy = some z ∧
  ∀ v H', Gr ρ m H ρ m H' → RelM K H' ρ m → Dt K (hid ρ m H') v z → Q v H'
def eBinF (g : PyData → PyData → Option PyData) (fa fb : ME) : ME := fun e m => match fa e m with
  | some (x, m1) => match fb e m1 with
    | some (y, m2) => match vwF m2 x, vwF m2 y with
      | some dx, some dy => match g dx dy with
        | some z => some (.d z, m2)
        | none => none
      | _, _ => none
    | none => none
  | none => none
theorem rd_binF {K : Frg} {g : PyData → PyData → Option PyData} {σ : L2.St} {H : Hp} {Q : VK} (h : rd K (eBinF g fa fb) σ H Q) : tOp (ropF K g) (rd K fa) (rd K fb) σ H Q := by
  obtain ⟨ρ, e, m, R, E, r, m', hr, k⟩ := h
  unfold eBinF at hr
  split at hr
  case h_2 => cases hr
  rename_i x m1 q1
  split at hr
  case h_2 => cases hr
  rename_i y m2 q2
  split at hr
  case h_2 => cases hr
  rename_i dx dy q3 q4
  split at hr
  case h_2 => cases hr
  rename_i z q5
  cases hr
  refine rd_mk R E q1 fun v1 H1 ρ1 g1 R1 E1 r1 => ?_
  refine rd_mk R1 E1 q2 fun v2 H2 ρ2 g2 R2 E2 r2 => ?_
  exact ⟨ρ2, _, dx, dy, z, R2, vwF_of R2 _ (r1.gr g2) q3, vwF_of R2 _ r2 q4, q5, fun v H' g3 R' hv => k v H' ρ2 ((g1.trans g2).trans g3) R' hv⟩
theorem q_cmpF {op : CmpOp} {g : PyData → PyData → Option PyData} (ho : OpR X (compareOp op) (ropF X.K g)) (ha : PE X a (rd X.K fa)) (hb : PE X b (rd X.K fb)) (hm : behindInMarks op b = false := by first | exact nobehind _ (by decide) (by decide) | rfl) :
    PE X (.Compare a [op] [b] pos) (rd X.K (eBinF g fa fb)) :=
  PE.imp (pe_cmpR ho ha hb hm) fun _ _ _ h => rd_binF h
theorem od_eq (hu : X.A.units + 64 < cLine) : OpR X (compareOp .Eq) (ropF X.K eqD) := by
  intro pins s σ H x y v u Q I rx ry h
  obtain ⟨ρ, m, dx, dy, z, R, hx, hy, hz, k⟩ := h
  unfold eqD at hz
  split at hz
  · cases hz
    rename_i hs
    exact op_eqD hu pins s σ H _ _ v u Q I rx ry ⟨dx, dy, Dt.dp dx (canLay_sh hs.1) hx, Dt.dp dy (canLay_sh hs.2) hy, hs.1, hs.2, rop_k R k (.bl _)⟩
  · split at hz
    · rename_i hn
      cases hz
      obtain ⟨a, b, z, zs, rfl, rfl, h1, h2⟩ := vsNil_v hn hx hy
      cases rx
      cases ry
      obtain ⟨i1, r1, l1, _⟩ := I.list (.inl (.inl h1) : SqL X.K H a (z :: zs))
      obtain ⟨i2, r2, l2, _⟩ := I.list (.inl (.inl h2) : SqL X.K H b [])
      cases r2
      have hl := r1.length
      have hsz : (i1.toArray.size != ([] : List Value).toArray.size) = true := by
        rw [List.size_toArray, ← hl]
        rfl
      exact SeqAt.eq_list_lengthsAt l1.isList l2.isList hsz (by omega) ⟨.bl false, H, I, rfl, rop_k R k (.bl _)⟩
    · split at hz
      · cases hz
        cases hx; cases hy
        exact op_eq pins s σ H _ _ v u Q I rx ry ⟨rfl, by rw [dec_str]; exact rop_k R k (.bl _)⟩
      · cases hz
        cases hx with
        | tup h1 q1 =>
        cases hy with
        | tup h2 q2 =>
        cases q1 with
        | cons q1a q1b =>
        cases q2
        cases rx
        cases ry
        obtain ⟨i1, r1, l1, _⟩ := I.tuple h1
        obtain ⟨i2, r2, l2, _⟩ := I.tuple h2
        cases r2
        have hl := r1.length
        obtain ⟨o1, e1, c1, n1, d1⟩ := l1
        obtain ⟨o2, e2, c2, n2, d2⟩ := l2
        refine SeqAt.eq_tupleAt (e := fun _ => true) ⟨o1, e1, c1, n1, d1⟩ ⟨o2, e2, c2, n2, d2⟩ (by omega) (fun j _ h2 => by simp at h2) ?_
        have hf : ((List.range (min i1.toArray.size ([] : List Value).toArray.size)).all (fun _ => true) && i1.toArray.size == ([] : List Value).toArray.size) = false := by
          rw [List.size_toArray, ← hl]
          simp
        rw [hf]
        exact ⟨.bl false, H, I, rfl, rop_k R k (.bl _)⟩
      · cases hz
theorem od_ne (hu : X.A.units + 64 < cLine) : OpR X (compareOp .NotEq) (ropF X.K neD) := by
  intro pins s σ H x y v u Q I rx ry h
  obtain ⟨ρ, m, dx, dy, z, R, hx, hy, hz, k⟩ := h
  unfold neD at hz
  split at hz
  · cases hz
    rename_i hs
    exact op_neD hu pins s σ H _ _ v u Q I rx ry ⟨dx, dy, Dt.dp dx (canLay_sh hs.1) hx, Dt.dp dy (canLay_sh hs.2) hy, hs.1, hs.2, rop_k R k (.bl _)⟩
  · split at hz
    · rename_i hn
      cases hz
      obtain ⟨a, b, z, zs, rfl, rfl, h1, h2⟩ := vsNil_v hn hx hy
      cases rx
      cases ry
      obtain ⟨i1, r1, l1, _⟩ := I.list (.inl (.inl h1) : SqL X.K H a (z :: zs))
      obtain ⟨i2, r2, l2, _⟩ := I.list (.inl (.inl h2) : SqL X.K H b [])
      cases r2
      have hl := r1.length
      have hsz : (i1.toArray.size != ([] : List Value).toArray.size) = true := by
        rw [List.size_toArray, ← hl]
        rfl
      exact SeqAt.RcNeAt.lists_lengths l1.isList l2.isList hsz (by omega) _ _ _ _ ⟨.bl true, H, I, rfl, rop_k R k (.bl _)⟩
    · split at hz
      · cases hz
        cases hx; cases hy
        exact op_ne pins s σ H _ _ v u Q I rx ry ⟨rfl, by rw [dec_str]; exact rop_k R k (.bl _)⟩
      · cases hz

end
end DL
set_option Elab.async false
set_option linter.all false
set_option maxRecDepth 100000
set_option maxHeartbeats 4000000
namespace DL
open PySem PySem.Spec PyProof.Rows L2

/-! ### in, not in -/
def flatD : PyData → Bool
  | .none | .bool _ | .int _ | .str _ => true
  | _ => false
def memD (x : PyData) (ys : List PyData) : Bool := ys.any fun y => PyData.eqv y x
def inD : PyData → PyData → Option PyData
  | .str i, .str j => match i.cps.toList with
    | [c] => some (.bool (decide (c ∈ j.cps.toList)))
    | _ => none
  | x, .list ys => if flatD x = true ∧ ys.all flatD = true then some (.bool (memD x ys)) else none
  | x, .tuple ys => if flatD x = true ∧ ys.all flatD = true then some (.bool (memD x ys)) else none
  | _, _ => none
def negD : Option PyData → Option PyData
  | some (.bool b) => some (.bool (!b))
  | _ => none
def notinD : PyData → PyData → Option PyData := fun x y => negD (inD x y)
section
variable {K : Frg} {G : Hp}
theorem flat_v {v : V} {d : PyData} (h : Dt K G v d) (f : flatD d = true) : flatV v = true := by
  cases h <;> first | rfl | cases f
theorem flat_eqv {v w : V} {d e : PyData} (h : Dt K G v d) (h' : Dt K G w e) (f : flatD d = true) (f' : flatD e = true) : eqV v w = PyData.eqv d e := by
  cases h <;> first
    | (cases f; done)
    | (cases h' <;> first
        | (cases f'; done)
        | rfl
        | simp [eqV, PyData.eqv])
theorem flat_all : ∀ {vs : List V} {ds : List PyData}, DtA K G vs ds → ds.all flatD = true → vs.all flatV = true
  | _, _, .nil, _ => rfl
  | _, _, .cons h q, f => by
    rw [List.all_cons, Bool.and_eq_true] at f
    rw [List.all_cons, flat_v h f.1, flat_all q f.2]; rfl
theorem flat_mem {v : V} {d : PyData} (h : Dt K G v d) (f : flatD d = true) : ∀ {vs : List V} {ds : List PyData}, DtA K G vs ds → ds.all flatD = true → inV v vs = memD d ds
  | _, _, .nil, _ => rfl
  | _, _, .cons (v := w) (d := e) h' q, f' => by
    rw [List.all_cons, Bool.and_eq_true] at f'
    have ih := flat_mem h f q f'.2
    unfold inV memD at ih ⊢
    rw [List.any_cons, List.any_cons, ih, flat_eqv h' h f'.1 f]
end
theorem one_sign {i : Str} {c : Nat} (h : i.cps.toList = [c]) : i = ⟨#[c]⟩ := by
  obtain ⟨a⟩ := i
  have : a = [c].toArray := by rw [← h]
  rw [this]
section
variable {X : Cx}
theorem od_in0 {neg : Bool} {op : CmpOp} (hs : OpR X (compareOp op) (fun x y H Q => ∃ (c : Nat) (z : Str), x = .str ⟨#[c]⟩ ∧ y = .str z ∧ Q (.bl (if neg then !decide (c ∈ z.cps.toList) else decide (c ∈ z.cps.toList))) H))
    (hq : OpR X (compareOp op) (rIn X.K neg)) : OpR X (compareOp op) (rop X.K fun x y => if neg then negD (inD x y) else inD x y) := by
  intro pins s σ H x y v u Q I rx ry h
  obtain ⟨ρ, m, dx, dy, z, R, hx, hy, hz, k⟩ := h
  dsimp only at hz
  have fin : ∀ b : Bool, inD dx dy = some (.bool b) → z = .bool (if neg then !b else b) := fun b e => by
    rw [e] at hz
    cases neg <;> (cases hz; rfl)
  cases q : inD dx dy with
  | none => rw [q] at hz; cases neg <;> cases hz
  | some r =>
    have hq0 := q
    unfold inD at q
    split at q
    · split at q
      · rename_i c hc
        cases q
        rw [fin _ hq0] at k
        cases hx.str; cases hy.str
        refine hs pins s σ H _ _ v u Q I rx ry ⟨c, _, congrArg V.str (one_sign hc), rfl, ?_⟩
        exact rop_k R k (.bl _)
      · cases q
    · split at q
      · rename_i hf
        cases q
        rw [fin _ hq0] at k
        obtain ⟨a, xs, rfl, h1, h2⟩ := hy.list hid_le
        have hx' := hx.full hid_le
        have h2' := DtA.mono hid_le _ h2
        refine hq pins s σ H _ _ v u Q I rx ry ⟨a, xs, rfl, .inl (.inl (.inl h1)), flat_v hx' hf.1, flat_all h2' hf.2, ?_⟩
        rw [flat_mem hx' hf.1 h2' hf.2]
        exact rop_k R k (.bl _)
      · cases q
    · split at q
      · rename_i hf
        cases q
        rw [fin _ hq0] at k
        obtain ⟨a, xs, rfl, h1, h2⟩ := hy.tuple hid_le
        have hx' := hx.full hid_le
        have h2' := DtA.mono hid_le _ h2
        refine hq pins s σ H _ _ v u Q I rx ry ⟨a, xs, rfl, .inr h1, flat_v hx' hf.1, flat_all h2' hf.2, ?_⟩
        rw [flat_mem hx' hf.1 h2' hf.2]
        exact rop_k R k (.bl _)
      · cases q
    · cases q
theorem od_in : OpR X (compareOp .In) (rop X.K inD) := od_in0 (neg := false) op_in_sign op_in_seq
theorem od_notin : OpR X (compareOp .NotIn) (rop X.K notinD) := od_in0 (neg := true) op_notIn_sign op_notIn_seq
end

/-! ### tests -/
def bOf (f : ME) : MB := fun e m => match f e m with
  | some (.d (.bool b), m1) => some (b, m1)
  | _ => none
theorem bOf_some {f : ME} {e : Env'} {m m' : Mem} {b : Bool} (h : bOf f e m = some (b, m')) : f e m = some (.d (.bool b), m') := by
  unfold bOf at h
  split at h
  · cases h; assumption
  · cases h
def truD : PyData → Option Bool
  | .none => some false
  | .bool b => some b
  | .int i => some (i != 0)
  | .str x => if x.length ≤ sizeLine then some ((x.length : Int) != 0) else none
  | .list xs => some !xs.isEmpty
  | .tuple xs => some !xs.isEmpty
  | .dict kvs => some !kvs.isEmpty
def bTru (f : ME) : MB := fun e m => match f e m with
  | some (x, m1) => match vw m1 x with
    | some d => match truD d with
      | some b => some (b, m1)
      | none => none
    | none => none
  | none => none
theorem bTru_some {f : ME} {e : Env'} {m m' : Mem} {b : Bool} (h : bTru f e m = some (b, m')) : ∃ x d, f e m = some (x, m') ∧ vw m' x = some d ∧ truD d = some b := by
  unfold bTru at h
  cases q1 : f e m with
  | none => rw [q1] at h; cases h
  | some p =>
    obtain ⟨x, m1⟩ := p
    rw [q1] at h; dsimp only at h
    cases q2 : vw m1 x with
    | none => rw [q2] at h; cases h
    | some d =>
      rw [q2] at h; dsimp only at h
      cases q3 : truD d with
      | none => rw [q3] at h; cases h
      | some b' => rw [q3] at h; cases h; exact ⟨x, d, rfl, q2, q3⟩
def bAnd (f g : MB) : MB := fun e m => match f e m with
  | some (true, m1) => g e m1
  | r => r
def bOr (f g : MB) : MB := fun e m => match f e m with
  | some (false, m1) => g e m1
  | r => r
def bNot (f : MB) : MB := fun e m => match f e m with
  | some (b, m1) => some (!b, m1)
  | none => none
def eAnd (f g : ME) : ME := fun e m => match f e m with
  | some (.d (.bool b), m1) => if b = true then g e m1 else some (.d (.bool false), m1)
  | _ => none
def eOr (f g : ME) : ME := fun e m => match f e m with
  | some (.d (.bool b), m1) => if b = true then some (.d (.bool true), m1) else g e m1
  | _ => none
def eNot (f : ME) : ME := fun e m => match f e m with
  | some (.d (.bool b), m1) => some (.d (.bool !b), m1)
  | _ => none
def eIf (c : MB) (f g : ME) : ME := fun e m => match c e m with
  | some (b, m1) => if b = true then f e m1 else g e m1
  | none => none
section
variable {K : Frg} {σ : L2.St} {H : Hp} {ρ : List Addr} {e : Env'} {m m1 m2 : Mem} {f g : ME} {c d : MB}
theorem dt_tru {G : Hp} {v : V} {x : PyData} {b : Bool} (h : Dt K G v x) (ht : truD x = some b) : TruV K v G b := by
  cases h with
  | non => cases ht; rfl
  | bl b => cases ht; rfl
  | int i => cases ht; rfl
  | str x =>
    simp only [truD] at ht
    split at ht
    · cases ht; exact ⟨by assumption, rfl⟩
    · cases ht
  | lst h q => cases ht; refine .inl ⟨_, .inl (.inl h), ?_⟩; cases q <;> rfl
  | tup h q => cases ht; refine .inr (.inl ⟨_, h, ?_⟩); cases q <;> rfl
  | dic h q => cases ht; refine .inr (.inr ⟨_, h, ?_⟩); cases q <;> rfl
end
section
variable {X : Cx} {pos : Pos} {a b : Expr} {fa fb : ME} {ca cb : MB}
theorem rb_of {K : Frg} {σ : L2.St} {H : Hp} {Q : Bool → Hp → Prop} {f : ME} (h : rb K (bOf f) σ H Q) : tB (rd K f) σ H Q := by
  obtain ⟨ρ, e, m, R, E, r, m', hr, k⟩ := h
  refine rd_mk R E (bOf_some hr) fun v H' ρ' g R' E' q => ?_
  cases q
  exact ⟨r, rfl, k H' ρ' g R'⟩
/-- a comparison as a test -/
theorem q_tcmp {op : CmpOp} {g : PyData → PyData → Option PyData} (ho : OpR X (compareOp op) (rop X.K g)) (ha : PE X a (rd X.K fa)) (hb : PE X b (rd X.K fb)) (hm : behindInMarks op b = false := by first | exact nobehind _ (by decide) (by decide) | rfl) :
    PT X (.Compare a [op] [b] pos) (rb X.K (bOf (eBin g fa fb))) :=
  PT.imp (pt_cmpR ho ha hb hm) fun σ H Q ⟨ρ, e, m, R, E, r, m', hr, k⟩ => by
    refine rd_bin ⟨ρ, e, m, R, E, _, m', bOf_some hr, fun v H' ρ' g R' q => ?_⟩
    cases q
    exact ⟨r, rfl, k H' ρ' g R'⟩
theorem q_tcmpF {op : CmpOp} {g : PyData → PyData → Option PyData} (ho : OpR X (compareOp op) (ropF X.K g)) (ha : PE X a (rd X.K fa)) (hb : PE X b (rd X.K fb)) (hm : behindInMarks op b = false := by first | exact nobehind _ (by decide) (by decide) | rfl) :
    PT X (.Compare a [op] [b] pos) (rb X.K (bOf (eBinF g fa fb))) :=
  PT.imp (pt_cmpR ho ha hb hm) fun σ H Q ⟨ρ, e, m, R, E, r, m', hr, k⟩ => by
    refine rd_binF ⟨ρ, e, m, R, E, _, m', bOf_some hr, fun v H' ρ' g R' q => ?_⟩
    cases q
    exact ⟨r, rfl, k H' ρ' g R'⟩
/-- any value as a test -/
theorem q_tru (ha : PE X a (rd X.K fa)) (he : ∀ whole, isTrue a X.env whole = (do let v ← whole; standAt a.pos; holding [v] (truthy v)) := by intro _; rfl) : PT X a (rb X.K (bTru fa)) :=
  PT.imp (pt_truth ha he) fun σ H Q ⟨ρ, e, m, R, E, r, m', hr, k⟩ => by
    obtain ⟨x, d, h1, h2, h3⟩ := bTru_some hr
    exact rd_mk R E h1 fun v H' ρ' g R' E' q => ⟨r, dt_tru ((vw_of R' q h2).full hid_le) h3, k H' ρ' g R'⟩
theorem q_tand1 (ha : PT X a (rb X.K ca)) : PW X (.BoolOp .And [a] pos) (rb X.K ca) := pw_and1 ha
theorem q_tor1 (ha : PT X a (rb X.K ca)) : PW X (.BoolOp .Or [a] pos) (rb X.K ca) := pw_or1 ha
theorem q_tand {rest : List Expr} (ha : PT X a (rb X.K ca)) (hb : PW X (.BoolOp .And (b :: rest) pos) (rb X.K cb)) : PW X (.BoolOp .And (a :: b :: rest) pos) (rb X.K (bAnd ca cb)) :=
  PW.imp (pw_and ha hb) fun σ H Q ⟨ρ, e, m, R, E, r, m', hr, k⟩ => by
    unfold bAnd at hr
    split at hr
    · rename_i m1 h1
      refine rb_mk R E h1 fun H1 ρ1 g1 R1 E1 => ?_
      rw [if_pos rfl]
      exact rb_mk R1 E1 hr fun H2 ρ2 g2 R2 E2 => k H2 ρ2 (g1.trans g2) R2
    · rename_i hne
      cases r with
      | true => exact absurd hr (hne _)
      | false =>
        refine rb_mk R E hr fun H1 ρ1 g1 R1 E1 => ?_
        rw [if_neg Bool.false_ne_true]
        exact k H1 ρ1 g1 R1
theorem q_tor {rest : List Expr} (ha : PT X a (rb X.K ca)) (hb : PW X (.BoolOp .Or (b :: rest) pos) (rb X.K cb)) : PW X (.BoolOp .Or (a :: b :: rest) pos) (rb X.K (bOr ca cb)) :=
  PW.imp (pw_or ha hb) fun σ H Q ⟨ρ, e, m, R, E, r, m', hr, k⟩ => by
    unfold bOr at hr
    split at hr
    · rename_i m1 h1
      refine rb_mk R E h1 fun H1 ρ1 g1 R1 E1 => ?_
      rw [if_neg Bool.false_ne_true]
      exact rb_mk R1 E1 hr fun H2 ρ2 g2 R2 E2 => k H2 ρ2 (g1.trans g2) R2
    · rename_i hne
      cases r with
      | false => exact absurd hr (hne _)
      | true =>
        refine rb_mk R E hr fun H1 ρ1 g1 R1 E1 => ?_
        rw [if_pos rfl]
        exact k H1 ρ1 g1 R1
theorem q_tnot (ha : PT X a (rb X.K ca)) : PT X (.UnaryOp .Not a pos) (rb X.K (bNot ca)) :=
  PT.imp (pt_not ha) fun σ H Q ⟨ρ, e, m, R, E, r, m', hr, k⟩ => by
    unfold bNot at hr
    split at hr
    · rename_i b m1 h1
      cases hr
      exact rb_mk R E h1 fun H1 ρ1 g1 R1 E1 => k H1 ρ1 g1 R1
    · cases hr
theorem q_and {rest : List Expr} (ha : PE X a (rd X.K fa)) (hb : PE X (.BoolOp .And (b :: rest) pos) (rd X.K fb)) : PE X (.BoolOp .And (a :: b :: rest) pos) (rd X.K (eAnd fa fb)) :=
  PE.imp (pe_and ha hb) fun σ H Q ⟨ρ, e, m, R, E, r, m', hr, k⟩ => by
    unfold eAnd at hr
    split at hr
    · rename_i b m1 h1
      refine rd_mk R E h1 fun v1 H1 ρ1 g1 R1 E1 r1 => ?_
      cases r1
      refine ⟨b, rfl, ?_⟩
      cases b with
      | true =>
        rw [if_pos rfl] at hr ⊢
        exact rd_mk R1 E1 hr fun v2 H2 ρ2 g2 R2 E2 r2 => k v2 H2 ρ2 (g1.trans g2) R2 r2
      | false =>
        rw [if_neg Bool.false_ne_true] at hr ⊢
        cases hr
        exact k _ H1 ρ1 g1 R1 (Dt.bl false)
    · cases hr
theorem q_or {rest : List Expr} (ha : PE X a (rd X.K fa)) (hb : PE X (.BoolOp .Or (b :: rest) pos) (rd X.K fb)) : PE X (.BoolOp .Or (a :: b :: rest) pos) (rd X.K (eOr fa fb)) :=
  PE.imp (pe_or ha hb) fun σ H Q ⟨ρ, e, m, R, E, r, m', hr, k⟩ => by
    unfold eOr at hr
    split at hr
    · rename_i b m1 h1
      refine rd_mk R E h1 fun v1 H1 ρ1 g1 R1 E1 r1 => ?_
      cases r1
      refine ⟨b, rfl, ?_⟩
      cases b with
      | false =>
        rw [if_neg Bool.false_ne_true] at hr ⊢
        exact rd_mk R1 E1 hr fun v2 H2 ρ2 g2 R2 E2 r2 => k v2 H2 ρ2 (g1.trans g2) R2 r2
      | true =>
        rw [if_pos rfl] at hr ⊢
        cases hr
        exact k _ H1 ρ1 g1 R1 (Dt.bl true)
    · cases hr
theorem q_one {op} (h : PE X a (rd X.K fa)) : PE X (.BoolOp op [a] pos) (rd X.K fa) := pe_one h
theorem q_not (ha : PE X a (rd X.K fa)) : PE X (.UnaryOp .Not a pos) (rd X.K (eNot fa)) :=
  PE.imp (pe_not ha) fun σ H Q ⟨ρ, e, m, R, E, r, m', hr, k⟩ => by
    unfold eNot at hr
    split at hr
    · rename_i b m1 h1
      cases hr
      refine rd_mk R E h1 fun v1 H1 ρ1 g1 R1 E1 r1 => ?_
      cases r1
      exact ⟨b, rfl, k _ H1 ρ1 g1 R1 (Dt.bl _)⟩
    · cases hr
theorem q_ifExp {c : Expr} (hc : PT X c (rb X.K ca)) (ha : PE X a (rd X.K fa)) (hb : PE X b (rd X.K fb)) : PE X (.IfExp c a b pos) (rd X.K (eIf ca fa fb)) :=
  PE.imp (pe_ifExp hc ha hb) fun σ H Q ⟨ρ, e, m, R, E, r, m', hr, k⟩ => by
    unfold eIf at hr
    split at hr
    · rename_i b m1 h1
      refine rb_mk R E h1 fun H1 ρ1 g1 R1 E1 => ?_
      cases b with
      | true =>
        rw [if_pos rfl] at hr ⊢
        exact rd_mk R1 E1 hr fun v2 H2 ρ2 g2 R2 E2 r2 => k v2 H2 ρ2 (g1.trans g2) R2 r2
      | false =>
        rw [if_neg Bool.false_ne_true] at hr ⊢
        exact rd_mk R1 E1 hr fun v2 H2 ρ2 g2 R2 E2 r2 => k v2 H2 ρ2 (g1.trans g2) R2 r2
    · cases hr
end

/-! ### is None -/
def isnE (neg : Bool) : EV → Bool
  | .d .none => !neg
  | _ => neg
def eIsN (neg : Bool) (f : ME) : ME := fun e m => match f e m with
  | some (x, m1) => some (.d (.bool (isnE neg x)), m1)
  | none => none
theorem isn_v {K : Frg} {G : Hp} {ρ : List Addr} {v : V} {x : EV} (h : EvR K G ρ v x) : (decide (v = .non)) = isnE false x ∧ (!decide (v = .non)) = isnE true x := by
  cases x with
  | d x =>
    have h' : Dt K G v x := h
    cases h' <;> exact ⟨rfl, rfl⟩
  | l i => obtain ⟨a, _, rfl⟩ := h; exact ⟨rfl, rfl⟩
  | f ds => obtain ⟨a, xs, rfl, _⟩ := h; exact ⟨rfl, rfl⟩
  | t xs => obtain ⟨a, vs, rfl, _⟩ := h; exact ⟨rfl, rfl⟩
  | o c fs => obtain ⟨a, C, dx, ys, rfl, _⟩ := h; exact ⟨rfl, rfl⟩
section
variable {X : Cx} {pos p' : Pos} {a : Expr} {fa : ME} {j : Nat}
theorem q_isN (ha : PE X a (rd X.K fa)) : PE X (.Compare a [.Is] [.Constant .none j p'] pos) (rd X.K (eIsN false fa)) := PE.imp (pe_cmp (pc_isN ha) rfl) fun σ H Q ⟨ρ, e, m, R, E, r, m', hr, k⟩ => by
  unfold eIsN at hr
  split at hr
  · rename_i x m1 h
    cases hr
    refine rd_mk R E h fun v H' ρ' g R' E' q => ?_
    rw [(isn_v q).1]
    exact k _ H' ρ' g R' (Dt.bl _)
  · cases hr
theorem q_notN (ha : PE X a (rd X.K fa)) : PE X (.Compare a [.IsNot] [.Constant .none j p'] pos) (rd X.K (eIsN true fa)) := PE.imp (pe_cmp (pc_notN ha) rfl) fun σ H Q ⟨ρ, e, m, R, E, r, m', hr, k⟩ => by
  unfold eIsN at hr
  split at hr
  · rename_i x m1 h
    cases hr
    refine rd_mk R E h fun v H' ρ' g R' E' q => ?_
    rw [(isn_v q).2]
    exact k _ H' ρ' g R' (Dt.bl _)
  · cases hr
theorem q_tisN (ha : PE X a (rd X.K fa)) : PT X (.Compare a [.Is] [.Constant .none j p'] pos) (rb X.K (bOf (eIsN false fa))) := PT.imp (pt_cmp (pc_isN ha) rfl) fun σ H Q ⟨ρ, e, m, R, E, r, m', hr, k⟩ => by
  have hr := bOf_some hr
  unfold eIsN at hr
  split at hr
  · rename_i x m1 h
    cases hr
    refine rd_mk R E h fun v H' ρ' g R' E' q => ?_
    refine ⟨_, rfl, ?_⟩
    rw [(isn_v q).1]
    exact k H' ρ' g R'
  · cases hr
theorem q_tnotN (ha : PE X a (rd X.K fa)) : PT X (.Compare a [.IsNot] [.Constant .none j p'] pos) (rb X.K (bOf (eIsN true fa))) := PT.imp (pt_cmp (pc_notN ha) rfl) fun σ H Q ⟨ρ, e, m, R, E, r, m', hr, k⟩ => by
  have hr := bOf_some hr
  unfold eIsN at hr
  split at hr
  · rename_i x m1 h
    cases hr
    refine rd_mk R E h fun v H' ρ' g R' E' q => ?_
    refine ⟨_, rfl, ?_⟩
    rw [(isn_v q).2]
    exact k H' ρ' g R'
  · cases hr
end

/-! ### two comparisons in a row -/
def eChain (g g' : PyData → PyData → Option PyData) (fa fb fc : ME) : ME := fun e m => match fa e m with
  | some (x, m1) => match fb e m1 with
    | some (y, m2) => match vw m2 x, vw m2 y with
      | some dx, some dy => match g dx dy with
        | some (.bool b) => if b = true then
            (match fc e m2 with
            | some (z, m3) => match vw m3 y, vw m3 z with
              | some dy', some dz => match g' dy' dz with
                | some r => some (.d r, m3)
                | none => none
              | _, _ => none
            | none => none)
          else some (.d (.bool false), m2)
        | _ => none
      | _, _ => none
    | none => none
  | none => none
section
variable {X : Cx} {pos : Pos} {a b c : Expr} {fa fb fc : ME}
theorem rd_chain {K : Frg} {g g' : PyData → PyData → Option PyData} {σ : L2.St} {H : Hp} {Q : VK} (h : rd K (eChain g g' fa fb fc) σ H Q) : tChain (rop K g) (rop K g') (rd K fa) (rd K fb) (rd K fc) σ H Q := by
  obtain ⟨ρ, e, m, R, E, r, m', hr, k⟩ := h
  unfold eChain at hr
  split at hr
  · rename_i x m1 h1
    split at hr
    · rename_i y m2 h2
      split at hr
      · rename_i dx dy h3 h4
        split at hr
        · rename_i bb h5
          refine rd_mk R E h1 fun v1 H1 ρ1 g1 R1 E1 r1 => ?_
          refine rd_mk R1 E1 h2 fun v2 H2 ρ2 g2 R2 E2 r2 => ?_
          refine ⟨ρ2, m2, dx, dy, _, R2, vw_of R2 (r1.gr g2) h3, vw_of R2 r2 h4, h5, fun v H3 g3 R3 hv => ?_⟩
          cases hv
          refine ⟨bb, rfl, ?_⟩
          have E3 := E2.gr g3
          have r3 := r2.gr g3
          cases bb with
          | false =>
            rw [if_neg Bool.false_ne_true] at hr ⊢
            cases hr
            exact k _ H3 ρ2 ((g1.trans g2).trans g3) R3 (Dt.bl false)
          | true =>
            rw [if_pos rfl] at hr ⊢
            split at hr
            · rename_i z m3 h6
              split at hr
              · rename_i dy' dz h7 h8
                split at hr
                · rename_i rr h9
                  cases hr
                  refine rd_mk R3 E3 h6 fun v4 H4 ρ4 g4 R4 E4 r4 => ?_
                  exact ⟨ρ4, _, dy', dz, rr, R4, vw_of R4 (r3.gr g4) h7, vw_of R4 r4 h8, h9, fun v H5 g5 R5 hv => k v H5 ρ4 ((((g1.trans g2).trans g3).trans g4).trans g5) R5 hv⟩
                · cases hr
              · cases hr
            · cases hr
        · cases hr
      · cases hr
    · cases hr
  · cases hr
theorem q_chain {op op' : CmpOp} {g g' : PyData → PyData → Option PyData} (ho : OpR X (compareOp op) (rop X.K g)) (ho' : OpR X (compareOp op') (rop X.K g')) (ha : PE X a (rd X.K fa)) (hb : PE X b (rd X.K fb)) (hc : PE X c (rd X.K fc))
    (hm : lastMarks [op, op'] [b, c] = false := by with_unfolding_all rfl) : PE X (.Compare a [op, op'] [b, c] pos) (rd X.K (eChain g g' fa fb fc)) :=
  PE.imp (pe_chain ho ho' ha hb hc hm) fun _ _ _ h => rd_chain h
theorem q_tchain {op op' : CmpOp} {g g' : PyData → PyData → Option PyData} (ho : OpR X (compareOp op) (rop X.K g)) (ho' : OpR X (compareOp op') (rop X.K g')) (ha : PE X a (rd X.K fa)) (hb : PE X b (rd X.K fb)) (hc : PE X c (rd X.K fc))
    (hm : lastMarks [op, op'] [b, c] = false := by with_unfolding_all rfl) : PT X (.Compare a [op, op'] [b, c] pos) (rb X.K (bOf (eChain g g' fa fb fc))) :=
  PT.imp (pt_chain ho ho' ha hb hc hm) fun σ H Q ⟨ρ, e, m, R, E, r, m', hr, k⟩ => by
    refine rd_chain ⟨ρ, e, m, R, E, _, m', bOf_some hr, fun v H' ρ' g R' q => ?_⟩
    cases q
    exact ⟨r, rfl, k H' ρ' g R'⟩
end
end DL
set_option Elab.async false
set_option linter.all false
set_option maxRecDepth 100000
set_option maxHeartbeats 4000000
namespace DL
open PySem PySem.Spec PyProof.Rows L2

/-! ### items -/
def ixD : PyData → PyData → Option PyData
  | .list xs, .int i => atI xs i
  | .tuple xs, .int i => atI xs i
  | .str s, .int i => if s.length ≤ sizeLine then (atI s.cps.toList i).map fun c => .str ⟨#[c]⟩ else none
  | _, _ => none
theorem DtA.atI {K : Frg} {G : Hp} {vs : List V} {ds : List PyData} {i : Int} {d : PyData} (h : DtA K G vs ds) (e : L2.atI ds i = some d) : ∃ v, L2.atI vs i = some v ∧ Dt K G v d := by
  unfold L2.atI at e ⊢
  rw [h.len]
  cases q : ixN ds.length i with
  | none => rw [q] at e; cases e
  | some j => rw [q] at e; exact h.get e
section
variable {X : Cx} {pos : Pos} {a b : Expr} {fa fb : ME}
theorem ixd : IxR X (rop X.K ixD) := by
  intro value slice pins s σ H x y v u Q I rx ry h hs
  obtain ⟨ρ, m, dx, dy, z, R, hx, hy, hz, k⟩ := h
  unfold ixD at hz
  split at hz
  · cases hy.int
    obtain ⟨p, xs, rfl, h1, h2⟩ := hx.list hid_le
    obtain ⟨w, h3, h4⟩ := h2.atI hz
    exact ix_list value slice pins s σ H _ _ v u Q I rx ry ⟨p, xs, _, w, rfl, rfl, .inl (.inl h1), h3, rop_k R k h4⟩ hs
  · cases hy.int
    obtain ⟨p, xs, rfl, h1, h2⟩ := hx.tuple hid_le
    obtain ⟨w, h3, h4⟩ := h2.atI hz
    exact ix_tup value slice pins s σ H _ _ v u Q I rx ry ⟨p, xs, _, w, rfl, rfl, h1, h3, rop_k R k h4⟩ hs
  · cases hy.int
    cases hx.str
    split at hz
    · rename_i hl
      cases q : L2.atI (_ : List Nat) _ with
      | none => rw [q] at hz; cases hz
      | some c =>
        rw [q] at hz
        cases hz
        exact ix_str value slice pins s σ H _ _ v u Q I rx ry ⟨_, _, c, rfl, rfl, hl, q, rop_k R k (.str _)⟩ hs
    · cases hz
  · cases hz
theorem q_ix (ha : PE X a (rd X.K fa)) (hb : PE X b (rd X.K fb)) (hs : PlainIx b := by intro _ _; rfl) : PE X (.Subscript a b pos) (rd X.K (eBin ixD fa fb)) :=
  PE.imp (pe_ix ixd ha hb hs) fun _ _ _ h => rd_bin h
end

/-! ### slices -/
def cutD {α : Type} (xs : List α) (lo hi : Option Int) : List α := (xs.drop (HT.sIx xs.length 0 lo)).take (HT.sIx xs.length xs.length hi - HT.sIx xs.length 0 lo)
def slD : PyData → Option Int → Option Int → Option PyData
  | .list xs, lo, hi => some (.list (cutD xs lo hi))
  | .tuple xs, lo, hi => some (.tuple (cutD xs lo hi))
  | .str s, lo, hi => if s.length ≤ sizeLine then some (.str (cutS s lo hi)) else none
  | _, _, _ => none
theorem DtA.cut {K : Frg} {G : Hp} {vs : List V} {ds : List PyData} {lo hi : Option Int} (h : DtA K G vs ds) : DtA K G (cutV vs lo hi) (cutD ds lo hi) := by
  unfold cutV cutD
  rw [h.len]
  exact (h.drop _).take _
theorem cut_whole {α : Type} {xs : List α} {lo hi : Option Int} (h : HT.sIx xs.length 0 lo = 0 ∧ HT.sIx xs.length xs.length hi = xs.length) : cutD xs lo hi = xs := by
  unfold cutD
  rw [h.1, h.2, List.drop_zero, Nat.sub_zero, List.take_length]
def rsl (K : Frg) : V → Option Int → Option Int → Hp → VK → Prop := fun x lo hi H Q => ∃ ρ m dx z, RelM K H ρ m ∧ VwR K (hid ρ m H) H x dx ∧ slD dx lo hi = some z ∧
  ∀ v H', Gr ρ m H ρ m H' → RelM K H' ρ m → Dt K (hid ρ m H') v z → Q v H'
theorem sld {X : Cx} : SlR X (rsl X.K) := by
  intro pins s σ H x v vl vu lo hi sl Q I rx hs pl pu h
  obtain ⟨ρ, m, dx, z, R, hx, hz, k⟩ := h
  unfold slD at hz
  split at hz
  · cases hz
    obtain ⟨p, xs, rfl, h1, h2⟩ := hx.list hid_le
    exact sl_list pins s σ H _ v vl vu lo hi sl Q I rx hs pl pu ⟨p, xs, rfl, .inl (.inl h1), fun q hq => rop_new R k h2.cut hq⟩
  · cases hz
    cases hx with
    | d hx =>
    cases hx with
    | tup h1 h2 =>
    refine sl_tupA pins s σ H _ v vl vu lo hi sl Q I rx hs pl pu ⟨_, _, rfl, sqt_same hid_le h1, fun e => ?_, fun _ q hq => rop_newT R k h2.cut hq⟩
    rw [h2.len] at e
    refine rop_k R k ?_
    rw [cut_whole e]
    exact .tup h1 h2
  · split at hz
    · cases hz
      cases hx.str
      exact sl_str pins s σ H _ v vl vu lo hi sl Q I rx hs pl pu ⟨_, rfl, by assumption, rop_k R k (.str _)⟩
    · cases hz
  · cases hz
abbrev MO' := Env' → Mem → Option (Option Int × Mem)
def ro (K : Frg) (f : MO') : TO := fun σ H Q => ∃ ρ e m, RelM K H ρ m ∧ EnvR K (hid ρ m H) ρ σ e ∧ ∃ r m', f e m = some (r, m') ∧ ∀ H' ρ', Gr ρ m H ρ' m' H' → RelM K H' ρ' m' → Q r H'
def oNo : MO' := fun _ m => some (none, m)
def oYes (f : ME) : MO' := fun e m => match f e m with
  | some (.d (.int i), m1) => some (some i, m1)
  | _ => none
theorem PO.imp {X : Cx} {e : Option Expr} {t t' : TO} (h : PO X e t) (w : ∀ σ H Q, t' σ H Q → t σ H Q) : PO X e t' := ⟨fun pins s σ H Q I q => h.run pins s σ H Q I (w _ _ _ q)⟩
def eSl (fa : ME) (lo hi : MO') : ME := fun e m => match fa e m with
  | some (x, m1) => match lo e m1 with
    | some (l, m2) => match hi e m2 with
      | some (u, m3) => match vw m3 x with
        | some d => match slD d l u with
          | some z => some (.d z, m3)
          | none => none
        | none => none
      | none => none
    | none => none
  | none => none
section
variable {X : Cx} {pos p2 : Pos} {a b : Expr} {fa fb : ME} {lo hi : Option Expr} {gl gh : MO'}
theorem q_no : PO X none (ro X.K oNo) := PO.imp po_none fun σ H Q ⟨ρ, e, m, R, E, r, m', hr, k⟩ => by
  cases hr
  exact k H ρ .refl R
theorem q_yes (ha : PE X a (rd X.K fa)) : PO X (some a) (ro X.K (oYes fa)) := PO.imp (po_some ha) fun σ H Q ⟨ρ, e, m, R, E, r, m', hr, k⟩ => by
  unfold oYes at hr
  split at hr
  · rename_i i m1 h1
    cases hr
    refine rd_mk R E h1 fun v H' ρ' g R' E' q => ?_
    cases q
    exact ⟨i, rfl, k H' ρ' g R'⟩
  · cases hr
theorem q_slice (ha : PE X a (rd X.K fa)) (hl : PO X lo (ro X.K gl)) (hh : PO X hi (ro X.K gh)) : PE X (.Subscript a (.Slice lo hi none p2) pos) (rd X.K (eSl fa gl gh)) :=
  PE.imp (pe_slice sld ha hl hh) fun σ H Q ⟨ρ, e, m, R, E, r, m', hr, k⟩ => by
    unfold eSl at hr
    split at hr
    · rename_i x m1 h1
      split at hr
      · rename_i l m2 h2
        split at hr
        · rename_i u m3 h3
          split at hr
          · rename_i d h4
            split at hr
            · rename_i z h5
              cases hr
              refine rd_mk R E h1 fun v1 H1 ρ1 g1 R1 E1 r1 => ?_
              refine ⟨ρ1, e, m1, R1, E1, l, m2, h2, fun H2 ρ2 g2 R2 => ?_⟩
              refine ⟨ρ2, e, m2, R2, E1.gr g2, u, _, h3, fun H3 ρ3 g3 R3 => ?_⟩
              exact ⟨ρ3, _, d, z, R3, vw_of R3 ((r1.gr g2).gr g3) h4, h5, fun v H4 g4 R4 hv => k v H4 ρ3 (((g1.trans g2).trans g3).trans g4) R4 hv⟩
            · cases hr
          · cases hr
        · cases hr
      · cases hr
    · cases hr
end

/-- a slice of the script -/
def eSlF (fa : ME) (lo hi : MO') : ME := fun e m => match fa e m with
  | some (.f ds, m1) => match lo e m1 with
    | some (l, m2) => match hi e m2 with
      | some (u, m3) => some (.d (.list (cutD ds l u)), m3)
      | none => none
    | none => none
  | _ => none
section
variable {X : Cx} {pos p2 : Pos} {a : Expr} {fa : ME} {lo hi : Option Expr} {gl gh : MO'}
theorem q_sliceF (ha : PE X a (rd X.K fa)) (hl : PO X lo (ro X.K gl)) (hh : PO X hi (ro X.K gh)) : PE X (.Subscript a (.Slice lo hi none p2) pos) (rd X.K (eSlF fa gl gh)) :=
  PE.imp (pe_slice sl_list ha hl hh) fun σ H Q ⟨ρ, e, m, R, E, r, m', hr, k⟩ => by
    unfold eSlF at hr
    split at hr
    case h_2 => cases hr
    rename_i ds m1 h1
    split at hr
    case h_2 => cases hr
    rename_i l m2 h2
    split at hr
    case h_2 => cases hr
    rename_i u m3 h3
    cases hr
    refine rd_mk R E h1 fun v1 H1 ρ1 g1 R1 E1 r1 => ?_
    refine ⟨ρ1, e, m1, R1, E1, l, m2, h2, fun H2 ρ2 g2 R2 => ?_⟩
    refine ⟨ρ2, e, m2, R2, E1.gr g2, u, _, h3, fun H3 ρ3 g3 R3 => ?_⟩
    obtain ⟨b, xs, rfl, b1, b2⟩ := (r1.gr g2).gr g3
    refine ⟨b, xs, rfl, hid_le.seq b1, fun p hp => ?_⟩
    exact rop_new (Q := Q) R3 (fun v H' g4 R4 hv => k v H' ρ3 (((g1.trans g2).trans g3).trans g4) R4 hv) b2.cut hp
end

/-! ### displays -/
def asD : List EV → Option (List PyData)
  | [] => some []
  | .d x :: r => (asD r).map (x :: ·)
  | .l _ :: _ => none
  | .f _ :: _ => none
  | .t _ :: _ => none
  | .o _ _ :: _ => none
theorem asD_dta {K : Frg} {G : Hp} {ρ : List Addr} : ∀ {vs : List V} {xs : List EV} {ds : List PyData}, EvA K G ρ vs xs → asD xs = some ds → DtA K G vs ds
  | _, _, _, .nil, e => by cases e; exact .nil
  | _, .d x :: xs, ds, .cons h q, e => by
    simp only [asD] at e
    cases r : asD xs with
    | none => rw [r] at e; cases e
    | some es => rw [r] at e; cases e; exact .cons h (asD_dta q r)
  | _, .l _ :: _, _, .cons h q, e => by simp [asD] at e
  | _, .f _ :: _, _, .cons h q, e => by simp [asD] at e
  | _, .t _ :: _, _, .cons h q, e => by simp [asD] at e
  | _, .o _ _ :: _, _, .cons h q, e => by simp [asD] at e
/-- [a, b, ..] as data -/
def eLst (f : MA) : ME := fun e m => match f e m with
  | some (xs, m1) => match asD xs with
    | some ds => if ds.length ≤ sizeLine then some (.d (.list ds), m1) else none
    | none => none
  | none => none
def eTup (f : MA) : ME := fun e m => match f e m with
  | some (xs, m1) => match asD xs with
    | some ds => if ds.length ≤ sizeLine then some (.d (.tuple ds), m1) else none
    | none => none
  | none => none
section
variable {X : Cx} {pos : Pos} {es : List Expr} {fa : MA}
theorem q_lst (h : PA X es (ra X.K fa)) : PE X (.List es pos) (rd X.K (eLst fa)) := PE.imp (pe_lst h) fun σ H Q ⟨ρ, e, m, R, E, r, m', hr, k⟩ => by
  unfold eLst at hr
  split at hr
  · rename_i xs m1 h1
    split at hr
    · rename_i ds h2
      split at hr
      · rename_i hl
        cases hr
        refine ra_mk R E h1 fun vs H1 ρ1 g1 R1 E1 q => ?_
        have hd := asD_dta q h2
        refine ⟨by rw [hd.len]; exact hl, fun p hp => ?_⟩
        exact rop_new (Q := Q) R1 (fun v H' g R' hv => k v H' ρ1 (g1.trans g) R' hv) hd hp
      · cases hr
    · cases hr
  · cases hr
theorem q_tup {x1} (h : PA X es (ra X.K fa)) : PE X (.Tuple es x1 pos) (rd X.K (eTup fa)) := PE.imp (pe_tup h) fun σ H Q ⟨ρ, e, m, R, E, r, m', hr, k⟩ => by
  unfold eTup at hr
  split at hr
  · rename_i xs m1 h1
    split at hr
    · rename_i ds h2
      split at hr
      · rename_i hl
        cases hr
        refine ra_mk R E h1 fun vs H1 ρ1 g1 R1 E1 q => ?_
        have hd := asD_dta q h2
        refine ⟨by rw [hd.len]; exact hl, fun p hp => ?_⟩
        exact rop_newT (Q := Q) R1 (fun v H' g R' hv => k v H' ρ1 (g1.trans g) R' hv) hd hp
      · cases hr
    · cases hr
  · cases hr
end

/-- a tuple of things of any kind, and its items by a written place -/
def eTupT (f : MA) : ME := fun e m => match f e m with
  | some (xs, m1) => if xs.length ≤ sizeLine then some (.t xs, m1) else none
  | none => none
def eIxT (f : ME) (j : Nat) : ME := fun e m => match f e m with
  | some (.t xs, m1) => match xs[j]? with
    | some x => some (x, m1)
    | none => none
  | _ => none
theorem evA_len {K : Frg} {G : Hp} {ρ : List Addr} : ∀ {vs : List V} {rs : List EV}, EvA K G ρ vs rs → vs.length = rs.length
  | _, _, .nil => rfl
  | _, _, .cons _ q => by rw [List.length_cons, List.length_cons, evA_len q]
theorem evA_get {K : Frg} {G : Hp} {ρ : List Addr} : ∀ {vs : List V} {rs : List EV} {i : Nat} {x : EV}, EvA K G ρ vs rs → rs[i]? = some x → ∃ v, vs[i]? = some v ∧ EvR K G ρ v x
  | _, _, _, _, .nil, e => by simp at e
  | _, _, 0, _, .cons h q, e => by simp at e; subst e; exact ⟨_, rfl, h⟩
  | _, _, i + 1, x, .cons _ q, e => by
    obtain ⟨v, h1, h2⟩ := evA_get (i := i) (x := x) q (by simpa using e)
    exact ⟨v, by simpa using h1, h2⟩
section
variable {X : Cx} {pos p1 : Pos} {es : List Expr} {fa : MA} {a : Expr} {f : ME} {j q : Nat}
theorem q_tupT {x1} (h : PA X es (ra X.K fa)) : PE X (.Tuple es x1 pos) (rd X.K (eTupT fa)) := PE.imp (pe_tup h) fun σ H Q ⟨ρ, e, m, R, E, r, m', hr, k⟩ => by
  unfold eTupT at hr
  split at hr
  case h_2 => cases hr
  rename_i xs m1 h1
  split at hr
  case isFalse => cases hr
  rename_i hl
  cases hr
  refine ra_mk R E h1 fun vs H1 ρ1 g1 R1 E1 q => ?_
  refine ⟨by rw [evA_len q]; exact hl, fun p hp => ?_⟩
  obtain ⟨R2, g2, e2⟩ := R1.new (o := .tup vs) hp
  exact k _ _ ρ1 (g1.trans g2) R2 ⟨p, vs, rfl, .inl (.inl e2), evA_all (q.gr g2)⟩
theorem q_ixT (ha : PE X a (rd X.K f)) : PE X (.Subscript a (.Constant (.int (j : Nat)) q p1) pos) (rd X.K (eIxT f j)) :=
  PE.imp (pe_ix ix_tup ha pe_int (fun _ _ => rfl)) fun σ H Q ⟨ρ, e, m, R, E, r, m', hr, k⟩ => by
    unfold eIxT at hr
    split at hr
    case h_2 => cases hr
    rename_i xs m1 h1
    split at hr
    case h_2 => cases hr
    rename_i x h2
    cases hr
    refine rd_mk R E h1 fun v H1 ρ1 g1 R1 E1 r1 => ?_
    obtain ⟨b, vs, rfl, b1, b2⟩ := r1
    obtain ⟨w, w1, w2⟩ := evA_get (all_evA b2) h2
    have hlt : j < vs.length := (List.getElem?_eq_some_iff.mp w1).1
    refine ⟨b, vs, _, w, rfl, rfl, sqt_same hid_le b1, ?_, k w H1 ρ1 g1 R1 w2⟩
    unfold L2.atI ixN
    rw [if_pos (by omega), if_pos (by omega)]
    exact w1
end

/-! ### the memory grows, and is cut back -/
theorem hid_take {ρ : List Addr} {m : Mem} {H : Hp} (n : Nat) : Same (hid ρ m H) (hid (ρ.take n) (m.take n) H) := fun b o h => by
  obtain ⟨h1, h2⟩ := hid_some h
  rw [hid_no, h1]
  rintro ⟨i, u, e1, e2, e3⟩
  refine h2 ⟨i, u, ?_, ?_, e3⟩
  · rw [List.getElem?_take] at e1
    split at e1
    · exact e1
    · cases e1
  · rw [List.getElem?_take] at e2
    split at e2
    · exact e2
    · cases e2
theorem RelM.take {K : Frg} {ρ : List Addr} {m : Mem} {H : Hp} (R : RelM K H ρ m) (n : Nat) : RelM K H (ρ.take n) (m.take n) := by
  refine ⟨by rw [List.length_take, List.length_take, R.len], R.nd.sublist (List.take_sublist _ _), fun a ha => R.al a (List.mem_of_mem_take ha), fun i a o h1 h2 => ?_⟩
  rw [List.getElem?_take] at h1 h2
  split at h1
  · rename_i hi
    rw [if_pos hi] at h2
    have ok := (R.ok i a o h1 h2).mono (G' := hid (ρ.take n) (m.take n) H) (ρ' := ρ) (H' := H) (hid_take n) (List.prefix_refl _) (.inl rfl)
    cases o with
    | gone => trivial
    | lst ds => exact ok
    | dct kvs => exact ok
    | ins c fs => exact ok
  · cases h1
/-- a new thing as a place of the memory -/
theorem hid_app {ρ : List Addr} {m : Mem} {H : Hp} {p : Addr} {o : MO} {u : HO} (hl : ρ.length = m.length) (hp : H p = none) : Same (hid ρ m H) (hid (ρ ++ [p]) (m ++ [o]) (upd H p u)) := fun b w h => by
  obtain ⟨h1, h2⟩ := hid_some h
  have nb : b ≠ p := ne_of_none h1 hp
  rw [hid_no, upd_ne nb, h1]
  rintro ⟨i, z, e1, e2, e3⟩
  by_cases hi : i < ρ.length
  · rw [List.getElem?_append_left hi] at e1
    rw [List.getElem?_append_left (by omega)] at e2
    exact h2 ⟨i, z, e1, e2, e3⟩
  · rw [List.getElem?_append_right (by omega)] at e1
    cases q : i - ρ.length with
    | zero => rw [q] at e1; simp at e1; exact nb e1.symm
    | succ j => rw [q] at e1; simp at e1
theorem RelM.push {K : Frg} {ρ : List Addr} {m : Mem} {H : Hp} (R : RelM K H ρ m) {p : Addr} {o : MO} {u : HO} (hp : H p = none)
    (ok : MOk K (hid (ρ ++ [p]) (m ++ [o]) (upd H p u)) (ρ ++ [p]) (upd H p u) p o) : RelM K (upd H p u) (ρ ++ [p]) (m ++ [o]) ∧ Gr ρ m H (ρ ++ [p]) (m ++ [o]) (upd H p u) := by
  have hs : Same H (upd H p u) := fun b w h => by rw [upd_ne (ne_of_none h hp)]; exact h
  have hg : Gr ρ m H (ρ ++ [p]) (m ++ [o]) (upd H p u) := ⟨List.prefix_append _ _, hid_app R.len hp⟩
  refine ⟨⟨by rw [List.length_append, List.length_append, R.len]; rfl, ?_, fun a ha => ?_, fun i a z h1 h2 => ?_⟩, hg⟩
  · rw [List.nodup_append]
    refine ⟨R.nd, by simp, fun a ha b hb e => ?_⟩
    rw [List.mem_singleton] at hb
    subst hb e
    exact R.al _ ha hp
  · rcases List.mem_append.mp ha with ha | ha
    · exact fun e => R.al a ha (hs.free e)
    · rw [List.mem_singleton] at ha
      subst ha
      rw [upd_same]
      exact fun z => nomatch z
  · by_cases hi : i < ρ.length
    · rw [List.getElem?_append_left hi] at h1
      rw [List.getElem?_append_left (by rw [← R.len]; exact hi)] at h2
      exact (R.ok i a z h1 h2).mono hg.same hg.pre (.inr hs)
    · rw [List.getElem?_append_right (by omega)] at h1
      rw [List.getElem?_append_right (by rw [← R.len]; omega), ← R.len] at h2
      cases q : i - ρ.length with
      | zero =>
        rw [q] at h1 h2
        simp at h1 h2
        subst h1 h2
        exact ok
      | succ j => rw [q] at h1; simp at h1
/-- a thing of the memory is taken as data: it never changes again -/
def eFrz (f : ME) : ME := fun e m => match f e m with
  | some (.d x, m1) => some (.d x, m1)
  | some (.l i, m1) => if i = m.length ∧ m1.length = m.length + 1 then
      (match vw m1 (.l i) with
      | some x => some (.d x, m1.take m.length)
      | none => none) else none
  | _ => none
theorem frz_dt {K : Frg} {ρ : List Addr} {m : Mem} {H : Hp} {n : Nat} {v : V} {x : PyData} (R : RelM K H ρ m) (hv : EvR K (hid ρ m H) ρ v (.l n)) (e : vw m (.l n) = some x) : Dt K (hid (ρ.take n) (m.take n) H) v x := by
  obtain ⟨a, h1, rfl⟩ := hv
  have na : ¬ Hid (ρ.take n) (m.take n) a := by
    rintro ⟨i, u, e1, _, _⟩
    rw [List.getElem?_take] at e1
    split at e1
    · rename_i hi
      have hi2 := (List.getElem?_eq_some_iff.mp e1).1
      have hn2 := (List.getElem?_eq_some_iff.mp h1).1
      have := (List.getElem?_inj hi2 R.nd).mp (e1.trans h1.symm)
      omega
    · cases e1
  simp only [vw] at e
  cases q : m[n]? with
  | none => rw [q] at e; cases e
  | some o =>
    rw [q] at e
    have ok := R.ok n a o h1 q
    cases o with
    | gone => cases e
    | lst ds =>
      cases e
      obtain ⟨xs, h2, h3⟩ := ok
      exact .lst (by rw [hid_no na]; exact h2) (DtA.mono (hid_take n) _ h3)
    | dct kvs =>
      cases e
      obtain ⟨ys, h2, h3⟩ := ok
      exact .dic (by rw [hid_no na]; exact h2) (DtK.mono (hid_take n) _ (kv_dtk h3))
    | ins c fs => cases e
theorem take_pre {ρ ρ' : List Addr} (h : ρ <+: ρ') : ρ'.take ρ.length = ρ := (List.prefix_iff_eq_take.mp h).symm
theorem q_frz {X : Cx} {a : Expr} {fa : ME} (h : PE X a (rd X.K fa)) : PE X a (rd X.K (eFrz fa)) := PE.imp h fun σ H Q ⟨ρ, e, m, R, E, r, m', hr, k⟩ => by
  unfold eFrz at hr
  split at hr
  · rename_i x m1 h1
    cases hr
    exact ⟨ρ, e, m, R, E, _, _, h1, k⟩
  · rename_i i m1 h1
    split at hr
    · rename_i hi
      obtain ⟨rfl, hl⟩ := hi
      split at hr
      · rename_i x h2
        cases hr
        refine rd_mk R E h1 fun v H1 ρ1 g1 R1 E1 r1 => ?_
        have e1 : ρ1.take m.length = ρ := by rw [← R.len]; exact take_pre g1.pre
        have R2 := R1.take m.length
        have d2 := frz_dt R1 r1 h2
        have s2 : Same (hid ρ1 m1 H1) (hid (ρ1.take m.length) (m1.take m.length) H1) := hid_take _
        rw [e1] at R2 d2 s2
        exact k v H1 ρ ⟨List.prefix_refl _, g1.same.trans s2⟩ R2 d2
      · cases hr
    · cases hr
  · cases hr
end DL
set_option Elab.async false
set_option linter.all false
set_option maxRecDepth 100000
set_option maxHeartbeats 4000000
namespace DL
open PySem PySem.Spec PyProof.Rows L2

/-! ### built-in functions, by data -/
def rcb (K : Frg) (g : Mem → List EV → Option PyData) : List V → Hp → VK → Prop := fun vs H Q => ∃ ρ m xs z, RelM K H ρ m ∧ EvA K (hid ρ m H) ρ vs xs ∧ g m xs = some z ∧
  ∀ v H', Gr ρ m H ρ m H' → RelM K H' ρ m → Dt K (hid ρ m H') v z → Q v H'
def eCB (g : Mem → List EV → Option PyData) (fa : MA) : ME := fun e m => match fa e m with
  | some (xs, m1) => match g m1 xs with
    | some z => some (.d z, m1)
    | none => none
  | none => none
section
variable {X : Cx} {x : Str} {p pos : Pos} {a : Expr} {es : List Expr} {fa : MA} {id T : String} {g : Mem → List EV → Option PyData}
theorem rd_cb {K : Frg} {σ : L2.St} {H : Hp} {Q : VK} (h : rd K (eCB g fa) σ H Q) : tCB (rcb K g) (ra K fa) σ H Q := by
  obtain ⟨ρ, e, m, R, E, r, m', hr, k⟩ := h
  unfold eCB at hr
  split at hr
  · rename_i xs m1 h1
    split at hr
    · rename_i z h2
      cases hr
      refine ra_mk R E h1 fun vs H1 ρ1 g1 R1 E1 q => ?_
      exact ⟨ρ1, _, xs, z, R1, q, h2, fun v H' g2 R2 hv => k v H' ρ1 (g1.trans g2) R2 hv⟩
    · cases hr
  · cases hr
theorem q_callB (hc : CallR X (.builtin id) (rcb X.K g)) (hg : Gl X x) (hm : X.mg x = none) (hv : bootBuiltins x = some (.builtin id)) (ha : PA X (a :: es) (ra X.K fa)) (hn : x ≠ "__name__" := by decide) (hdb : (x == ("__debug__" : Str)) = false := by decide)
    (he : starEach (a :: es) X.env = (false, eval a X.env) :: starEach es X.env := by rfl) (hpl : (backTo pos (starEach es X.env)).any (·.1) = false := by rfl) : PE X (.Call (.Name x p) (a :: es) [] pos) (rd X.K (eCB g fa)) :=
  PE.imp (pe_callB hc hg hm hv ha hn hdb he hpl) fun _ _ _ h => rd_cb h
theorem q_callTy (hc : CallR X (.type T) (rcb X.K g)) (hg : Gl X x) (hm : X.mg x = none) (hv : bootBuiltins x = some (.type T)) (ha : PA X (a :: es) (ra X.K fa)) (hn : x ≠ "__name__" := by decide) (hdb : (x == ("__debug__" : Str)) = false := by decide)
    (he : starEach (a :: es) X.env = (false, eval a X.env) :: starEach es X.env := by rfl) (hpl : (backTo pos (starEach es X.env)).any (·.1) = false := by rfl) : PE X (.Call (.Name x p) (a :: es) [] pos) (rd X.K (eCB g fa)) :=
  PE.imp (pe_callTy hc hg hm hv ha hn hdb he hpl) fun _ _ _ h => rd_cb h
end
/-- of one thing, looked at -/
def c1 (f : PyData → Option PyData) : Mem → List EV → Option PyData := fun m xs => match xs with
  | [x] => match vw m x with
    | some d => f d
    | none => none
  | _ => none
def c2 (f : PyData → PyData → Option PyData) : Mem → List EV → Option PyData := fun m xs => match xs with
  | [x, y] => match vw m x, vw m y with
    | some d, some e => f d e
    | _, _ => none
  | _ => none
theorem c1_of {K : Frg} {f : PyData → Option PyData} {vs : List V} {H : Hp} {Q : VK} (h : rcb K (c1 f) vs H Q) : ∃ ρ m v d z, vs = [v] ∧ RelM K H ρ m ∧ VwR K (hid ρ m H) H v d ∧ f d = some z ∧
    ∀ v H', Gr ρ m H ρ m H' → RelM K H' ρ m → Dt K (hid ρ m H') v z → Q v H' := by
  obtain ⟨ρ, m, xs, z, R, r, hz, k⟩ := h
  unfold c1 at hz
  split at hz
  · cases r with
    | cons r1 r2 =>
      cases r2
      split at hz
      · rename_i d hd
        exact ⟨ρ, m, _, d, z, rfl, R, vw_of R r1 hd, hz, k⟩
      · cases hz
  · cases hz
theorem c2_of {K : Frg} {f : PyData → PyData → Option PyData} {vs : List V} {H : Hp} {Q : VK} (h : rcb K (c2 f) vs H Q) : ∃ ρ m v w d e z, vs = [v, w] ∧ RelM K H ρ m ∧ VwR K (hid ρ m H) H v d ∧ VwR K (hid ρ m H) H w e ∧ f d e = some z ∧
    ∀ v H', Gr ρ m H ρ m H' → RelM K H' ρ m → Dt K (hid ρ m H') v z → Q v H' := by
  obtain ⟨ρ, m, xs, z, R, r, hz, k⟩ := h
  unfold c2 at hz
  split at hz
  · cases r with
    | cons r1 r2 =>
      cases r2 with
      | cons r2 r3 =>
        cases r3
        split at hz
        · rename_i d e hd he
          exact ⟨ρ, m, _, _, d, e, z, rfl, R, vw_of R r1 hd, vw_of R r2 he, hz, k⟩
        · cases hz
  · cases hz
def c1F (f : PyData → Option PyData) : Mem → List EV → Option PyData := fun m xs => match xs with
  | [x] => match vwF m x with
    | some d => f d
    | none => none
  | _ => none
theorem c1F_of {K : Frg} {f : PyData → Option PyData} {vs : List V} {H : Hp} {Q : VK} (h : rcb K (c1F f) vs H Q) : ∃ ρ m v d z, vs = [v] ∧ RelM K H ρ m ∧ Dt K H v d ∧ f d = some z ∧
    ∀ v H', Gr ρ m H ρ m H' → RelM K H' ρ m → Dt K (hid ρ m H') v z → Q v H' := by
  obtain ⟨ρ, m, xs, z, R, r, hz, k⟩ := h
  unfold c1F at hz
  split at hz
  · cases r with
    | cons r1 r2 =>
      cases r2
      split at hz
      · rename_i d hd
        exact ⟨ρ, m, _, d, z, rfl, R, vwF_of R _ r1 hd, hz, k⟩
      · cases hz
  · cases hz
def lenD : PyData → Option PyData
  | .list xs => some (.int xs.length)
  | .tuple xs => some (.int xs.length)
  | .str s => if s.length ≤ sizeLine then some (.int s.length) else none
  | _ => none
def asB : List PyData → Option (List Bool)
  | [] => some []
  | .bool b :: r => (asB r).map (b :: ·)
  | _ :: _ => none
def asI : List PyData → Option (List Int)
  | [] => some []
  | .int b :: r => (asI r).map (b :: ·)
  | _ :: _ => none
def asS : List PyData → Option (List Str)
  | [] => some []
  | .str b :: r => (asS r).map (b :: ·)
  | _ :: _ => none
theorem asB_v {K : Frg} {G : Hp} : ∀ {vs : List V} {ds : List PyData} {bs : List Bool}, DtA K G vs ds → asB ds = some bs → vs = bs.map V.bl
  | _, _, _, .nil, e => by cases e; rfl
  | _, d :: ds, bs, .cons h q, e => by
    unfold asB at e
    split at e
    · rename_i e1; cases e1
    · rename_i b r e1
      cases e1
      cases h
      cases w : asB ds with
      | none => rw [w] at e; cases e
      | some cs => rw [w] at e; cases e; rw [asB_v q w]; rfl
    · cases e
theorem asI_v {K : Frg} {G : Hp} : ∀ {vs : List V} {ds : List PyData} {bs : List Int}, DtA K G vs ds → asI ds = some bs → vs = bs.map V.int
  | _, _, _, .nil, e => by cases e; rfl
  | _, d :: ds, bs, .cons h q, e => by
    unfold asI at e
    split at e
    · rename_i e1; cases e1
    · rename_i b r e1
      cases e1
      cases h
      cases w : asI ds with
      | none => rw [w] at e; cases e
      | some cs => rw [w] at e; cases e; rw [asI_v q w]; rfl
    · cases e
theorem asS_v {K : Frg} {G : Hp} : ∀ {vs : List V} {ds : List PyData} {bs : List Str}, DtA K G vs ds → asS ds = some bs → vs = bs.map V.str
  | _, _, _, .nil, e => by cases e; rfl
  | _, d :: ds, bs, .cons h q, e => by
    unfold asS at e
    split at e
    · rename_i e1; cases e1
    · rename_i b r e1
      cases e1
      cases h
      cases w : asS ds with
      | none => rw [w] at e; cases e
      | some cs => rw [w] at e; cases e; rw [asS_v q w]; rfl
    · cases e
def allD : PyData → Option PyData
  | .list xs => (asB xs).map fun bs => .bool (bs.all id)
  | _ => none
def anyD : PyData → Option PyData
  | .list xs => (asB xs).map fun bs => .bool (bs.any id)
  | _ => none
def sumD : PyData → Option PyData
  | .list xs => (asI xs).map fun bs => .int bs.sum
  | _ => none
def absD : PyData → Option PyData
  | .int i => some (.int (if i < 0 then -i else i))
  | _ => none
def listD : PyData → Option PyData
  | .list xs => some (.list xs)
  | .tuple xs => some (.list xs)
  | _ => none
def tupleD : PyData → Option PyData
  | .list xs => some (.tuple xs)
  | .tuple xs => some (.tuple xs)
  | _ => none
def max2D : PyData → PyData → Option PyData
  | .int i, .int j => some (.int (if j > i then j else i))
  | _, _ => none
def min2D : PyData → PyData → Option PyData
  | .int i, .int j => some (.int (if j < i then j else i))
  | _, _ => none
section
variable {X : Cx}
theorem cd_len : CallR X (.builtin "len") (rcb X.K (c1 lenD)) := by
  intro pins s σ H xs us Q I r h
  obtain ⟨ρ, m, v, d, z, rfl, R, hd, hz, k⟩ := c1_of h
  unfold lenD at hz
  split at hz
  · cases hz
    obtain ⟨a, ys, rfl, h1, h2⟩ := hd.list hid_le
    refine call_len_seq pins s σ H _ us Q I r ⟨a, ys, rfl, .inl (.inl (.inl h1)), ?_⟩
    rw [h2.len]; exact rop_k R k (.int _)
  · cases hz
    obtain ⟨a, ys, rfl, h1, h2⟩ := hd.tuple hid_le
    refine call_len_seq pins s σ H _ us Q I r ⟨a, ys, rfl, .inr h1, ?_⟩
    rw [h2.len]; exact rop_k R k (.int _)
  · split at hz
    · cases hz
      cases hd.str
      exact call_len_str pins s σ H _ us Q I r ⟨_, rfl, by assumption, rop_k R k (.int _)⟩
    · cases hz
  · cases hz
theorem cd_all (hc : X.calm = true) : CallR X (.builtin "all") (rcb X.K (c1 allD)) := by
  intro pins s σ H xs us Q I r h
  obtain ⟨ρ, m, v, d, z, rfl, R, hd, hz, k⟩ := c1_of h
  unfold allD at hz
  split at hz
  · rename_i ds
    cases w : asB ds with
    | none => rw [w] at hz; cases hz
    | some bs =>
      rw [w] at hz
      cases hz
      obtain ⟨a, ys, rfl, h1, h2⟩ := hd.list hid_le
      cases asB_v h2 w
      exact cr_all hc pins s σ H _ us Q I r ⟨a, bs, rfl, .inl (.inl h1), rop_k R k (.bl _)⟩
  · cases hz
theorem cd_any (hc : X.calm = true) : CallR X (.builtin "any") (rcb X.K (c1 anyD)) := by
  intro pins s σ H xs us Q I r h
  obtain ⟨ρ, m, v, d, z, rfl, R, hd, hz, k⟩ := c1_of h
  unfold anyD at hz
  split at hz
  · rename_i ds
    cases w : asB ds with
    | none => rw [w] at hz; cases hz
    | some bs =>
      rw [w] at hz
      cases hz
      obtain ⟨a, ys, rfl, h1, h2⟩ := hd.list hid_le
      cases asB_v h2 w
      exact cr_any hc pins s σ H _ us Q I r ⟨a, bs, rfl, .inl (.inl h1), rop_k R k (.bl _)⟩
  · cases hz
theorem cd_sum (hc : X.calm = true) : CallR X (.builtin "sum") (rcb X.K (c1 sumD)) := by
  intro pins s σ H xs us Q I r h
  obtain ⟨ρ, m, v, d, z, rfl, R, hd, hz, k⟩ := c1_of h
  unfold sumD at hz
  split at hz
  · rename_i ds
    cases w : asI ds with
    | none => rw [w] at hz; cases hz
    | some bs =>
      rw [w] at hz
      cases hz
      obtain ⟨a, ys, rfl, h1, h2⟩ := hd.list hid_le
      cases asI_v h2 w
      exact cr_sum hc pins s σ H _ us Q I r ⟨a, bs, rfl, .inl (.inl h1), rop_k R k (.int _)⟩
  · cases hz
theorem cd_abs : CallR X (.builtin "abs") (rcb X.K (c1 absD)) := by
  intro pins s σ H xs us Q I r h
  obtain ⟨ρ, m, v, d, z, rfl, R, hd, hz, k⟩ := c1_of h
  unfold absD at hz
  split at hz
  · cases hz
    cases hd.int
    exact call_abs pins s σ H _ us Q I r ⟨_, rfl, rop_k R k (.int _)⟩
  · cases hz
theorem cd_list : CallR X (.type "list") (rcb X.K (c1 listD)) := by
  intro pins s σ H xs us Q I r h
  obtain ⟨ρ, m, v, d, z, rfl, R, hd, hz, k⟩ := c1_of h
  unfold listD at hz
  split at hz
  · cases hz
    obtain ⟨a, ys, rfl, h1, h2⟩ := hd.list hid_le
    exact call_list_of pins s σ H _ us Q I r ⟨a, ys, rfl, .inl (.inl (.inl h1)), fun l hl => rop_new R k h2 hl⟩
  · cases hz
    obtain ⟨a, ys, rfl, h1, h2⟩ := hd.tuple hid_le
    exact call_list_of pins s σ H _ us Q I r ⟨a, ys, rfl, .inr h1, fun l hl => rop_new R k h2 hl⟩
  · cases hz
theorem cd_tuple : CallR X (.type "tuple") (rcb X.K (c1 tupleD)) := by
  intro pins s σ H xs us Q I r h
  obtain ⟨ρ, m, v, d, z, rfl, R, hd, hz, k⟩ := c1_of h
  unfold tupleD at hz
  split at hz
  · cases hz
    obtain ⟨a, ys, rfl, h1, h2⟩ := hd.list hid_le
    exact call_tuple_of pins s σ H _ us Q I r ⟨a, ys, rfl, .inl ⟨.inl (.inl h1), fun l hl => rop_newT R k h2 hl⟩⟩
  · cases hz
    cases hd with
    | d hd =>
    cases hd with
    | tup h1 h2 => exact call_tuple_of pins s σ H _ us Q I r ⟨_, _, rfl, .inr ⟨sqt_same hid_le h1, rop_k R k (.tup h1 h2)⟩⟩
  · cases hz
theorem cd_max2 (hc : X.calm = true) : CallR X (.builtin "max") (rcb X.K (c2 max2D)) := by
  intro pins s σ H xs us Q I r h
  obtain ⟨ρ, m, v, w, d, e, z, rfl, R, hd, he, hz, k⟩ := c2_of h
  unfold max2D at hz
  split at hz
  · cases hz
    cases hd.int; cases he.int
    exact call_max2 hc pins s σ H _ us Q I r ⟨_, _, rfl, rop_k R k (.int _)⟩
  · cases hz
theorem cd_min2 (hc : X.calm = true) : CallR X (.builtin "min") (rcb X.K (c2 min2D)) := by
  intro pins s σ H xs us Q I r h
  obtain ⟨ρ, m, v, w, d, e, z, rfl, R, hd, he, hz, k⟩ := c2_of h
  unfold min2D at hz
  split at hz
  · cases hz
    cases hd.int; cases he.int
    exact call_min2 hc pins s σ H _ us Q I r ⟨_, _, rfl, rop_k R k (.int _)⟩
  · cases hz
/-- repr of lists and tuples of plain things, at any depth -/
def reprD : PyData → Option PyData := fun d => match d with
  | .list _ | .tuple _ => if d.canLay0 = true ∧ d.showable = true ∧ d.depth ≤ 64 ∧ d.shown.length ≤ sizeLine then some (.str d.shown) else none
  | _ => none
theorem cd_repr (hg : X.A.guards = some []) (hu : X.A.units + 65 < cLine) : CallR X (.builtin "repr") (rcb X.K (c1F reprD)) := by
  intro pins s σ H xs us Q I r h
  obtain ⟨ρ, m, v, d, z, rfl, R, hd, hz, k⟩ := c1F_of h
  obtain ⟨u, rfl, ru⟩ : ∃ u, us = [u] ∧ RelV v u := by
    cases r with
    | cons r1 r2 => cases r2; exact ⟨_, rfl, r1⟩
  have go : ∀ a : Addr, v = .ref a → d.canLay0 = true ∧ d.showable = true ∧ d.depth ≤ 64 ∧ d.shown.length ≤ sizeLine → z = .str d.shown → wpAny (model X.prog X.w) X.A (call (.builtin "repr") [u]) (EP X pins σ Q) X.xe s := by
    intro a hv c hz'
    subst hv hz'
    obtain ⟨as, hr⟩ := Dp.reads I d _ u (Dt.dp d c.1 hd) ru
    cases ru
    refine repr_of_reads' hr c.2.1 (fun hd => ?_) hg (by omega) (fun _ _ e => e) (fun h' u tk hk => ?_) c.2.2.2
    · rw [PyData.hasDict_of_canLay d c.1] at hd
      cases hd
    · exact ⟨.str d.shown, H, I.kept (t' := tk) hk, ⟨_, rfl⟩, rop_k R k (.str _)⟩
  unfold reprD at hz
  split at hz
  · split at hz
    · cases hz
      have hd' := hd
      cases hd' with | lst h q => exact go _ rfl (by assumption) rfl
    · cases hz
  · split at hz
    · cases hz
      have hd' := hd
      cases hd' with | tup h q => exact go _ rfl (by assumption) rfl
    · cases hz
  · cases hz
end

/-! ### isinstance -/
def tyD : PyData → String
  | .none => "NoneType"
  | .bool _ => "bool"
  | .int _ => "int"
  | .str _ => "str"
  | .list _ => "list"
  | .tuple _ => "tuple"
  | .dict _ => "dict"
theorem dt_ty {K : Frg} {G : Hp} {v : V} {d : PyData} (h : Dt K G v d) : TyX K G v (.type (tyD d)) := by
  cases h with
  | non => exact .base .non
  | bl b => exact .base (.bl b)
  | int i => exact .base (.int i)
  | str x => exact .base (.str x)
  | lst h q => exact .base (.lst h)
  | tup h q =>
    rcases h with (h | ⟨o, h⟩) | ⟨o, its, n, h, c, _⟩
    · exact .base (.tup h)
    · exact .fTuple h
    · exact .kTuple h c
  | dic h q => exact .base (.dK h)
def isT (t : String) (d : PyData) : Option Bool := kitB (tyD d) t
def eIs (t : String) (f : ME) : ME := fun e m => match f e m with
  | some (x, m1) => match vw m1 x with
    | some d => match isT t d with
      | some b => some (.d (.bool b), m1)
      | none => none
    | none => none
  | none => none
def isT2 (t u : String) (d : PyData) : Option Bool := match isT t d with
  | some true => some true
  | some false => isT u d
  | none => none
def eIs2 (t u : String) (f : ME) : ME := fun e m => match f e m with
  | some (x, m1) => match vw m1 x with
    | some d => match isT2 t u d with
      | some b => some (.d (.bool b), m1)
      | none => none
    | none => none
  | none => none
section
variable {X : Cx} {p p1 p2 pos : Pos} {a : Expr} {fa : ME} {t u : Str} {T U : String}
theorem q_isi (hg : Gl X "isinstance") (hm : X.mg "isinstance" = none) (hgt : Gl X t) (hmt : X.mg t = none) (hvt : bootBuiltins t = some (.type T)) (ha : PE X a (rd X.K fa)) (hn : t ≠ "__name__" := by decide) (hd : (t == ("__debug__" : Str)) = false := by decide)
    (h1 : starEach (a :: [.Name t p1]) X.env = (false, eval a X.env) :: starEach [.Name t p1] X.env := by rfl) (h2 : starEach [.Name t p1] X.env = (false, eval (.Name t p1) X.env) :: starEach [] X.env := by rfl) (hpl : (backTo pos (starEach [.Name t p1] X.env)).any (·.1) = false := by rfl) :
    PE X (.Call (.Name "isinstance" p) [a, .Name t p1] [] pos) (rd X.K (eIs T fa)) :=
  PE.imp (pe_callB call_isi hg hm boot_isinstance (pa_cons ha (pa_cons (pe_bltn hgt hmt hvt (v := .ty T) rfl hn hd) pa_nil h2) h1) (by decide) (by decide) h1 hpl) fun σ H Q ⟨ρ, e, m, R, E, r, m', hr, k⟩ => by
    unfold eIs at hr
    split at hr
    · rename_i x m1 q1
      split at hr
      · rename_i d q2
        split at hr
        · rename_i b q3
          cases hr
          refine rd_mk R E q1 fun v1 H1 ρ1 g1 R1 E1 r1 => ?_
          have hd := (vw_of R1 r1 q2).full hid_le
          exact ⟨v1, .ty T, _, .type T, b, rfl, .ty T, dt_ty hd, kit_ty q3, k _ H1 ρ1 g1 R1 (Dt.bl b)⟩
        · cases hr
      · cases hr
    · cases hr
theorem q_isi2 {kp : Nat} {p3 : Pos} (hg : Gl X "isinstance") (hm : X.mg "isinstance" = none) (hgt : Gl X t) (hmt : X.mg t = none) (hvt : bootBuiltins t = some (.type T)) (hgu : Gl X u) (hmu : X.mg u = none) (hvu : bootBuiltins u = some (.type U)) (ha : PE X a (rd X.K fa))
    (hn : t ≠ "__name__" := by decide) (hd : (t == ("__debug__" : Str)) = false := by decide) (hn' : u ≠ "__name__" := by decide) (hd' : (u == ("__debug__" : Str)) = false := by decide)
    (h1 : starEach (a :: [.Tuple [.Name t p1, .Name u p2] kp p3]) X.env = (false, eval a X.env) :: starEach [.Tuple [.Name t p1, .Name u p2] kp p3] X.env := by rfl)
    (h2 : starEach [.Tuple [.Name t p1, .Name u p2] kp p3] X.env = (false, eval (.Tuple [.Name t p1, .Name u p2] kp p3) X.env) :: starEach [] X.env := by rfl) (hpl : (backTo pos (starEach [.Tuple [.Name t p1, .Name u p2] kp p3] X.env)).any (·.1) = false := by rfl)
    (h3 : starEach [.Name t p1, .Name u p2] X.env = (false, eval (.Name t p1) X.env) :: starEach [.Name u p2] X.env := by rfl) (h4 : starEach [.Name u p2] X.env = (false, eval (.Name u p2) X.env) :: starEach [] X.env := by rfl) :
    PE X (.Call (.Name "isinstance" p) [a, .Tuple [.Name t p1, .Name u p2] kp p3] [] pos) (rd X.K (eIs2 T U fa)) :=
  PE.imp (pe_callB call_isiT hg hm boot_isinstance (pa_cons ha (pa_cons (pe_tup (pa_cons (pe_bltn hgt hmt hvt (v := .ty T) rfl hn hd) (pa_cons (pe_bltn hgu hmu hvu (v := .ty U) rfl hn' hd') pa_nil h4) h3)) pa_nil h2) h1) (by decide) (by decide) h1 hpl) fun σ H Q ⟨ρ, e, m, R, E, r, m', hr, k⟩ => by
    unfold eIs2 at hr
    split at hr
    · rename_i x m1 q1
      split at hr
      · rename_i d q2
        split at hr
        · rename_i b q3
          cases hr
          refine rd_mk R E q1 fun v1 H1 ρ1 g1 R1 E1 r1 => ?_
          refine ⟨by show 2 ≤ sizeLine; decide, fun tp htp => ?_⟩
          obtain ⟨R2, g2, _⟩ := R1.new (o := .tup [.ty T, .ty U]) htp
          have hd := ((vw_of R1 r1 q2).full hid_le).mono (G' := upd H1 tp (.tup [.ty T, .ty U])) (fun b' w' hw => by rw [upd_ne (ne_of_none hw htp)]; exact hw) d
          refine ⟨v1, tp, [.ty T, .ty U], _, [.type T, .type U], b, rfl, upd_same, .cons (.ty T) (.cons (.ty U) .nil), dt_ty hd, ?_, k _ _ ρ1 (g1.trans g2) R2 (Dt.bl b)⟩
          unfold isT2 isT at q3
          split at q3
          · rename_i e1
            cases q3
            exact kitAny_cons (kit_ty e1) (fun z => nomatch z) fun _ => rfl
          · rename_i e1
            refine kitAny_cons (kit_ty e1) (fun _ => ?_) fun z => nomatch z
            refine kitAny_cons (kit_ty q3) (fun z => ?_) fun z => z
            subst z
            rfl
          · cases q3
        · cases hr
      · cases hr
    · cases hr
end
/-! ### is None -/
def isnD (neg : Bool) : PyData → Option PyData
  | .none => some (.bool (!neg))
  | _ => some (.bool neg)
end DL
set_option Elab.async false
set_option linter.all false
set_option maxRecDepth 100000
set_option maxHeartbeats 4000000
namespace DL
open PySem PySem.Spec PyProof.Rows L2

/-! ### a def, and its call -/
abbrev MF := List EV → Mem → Option (EV × Mem)
/-- the promise: what the def's function says of values and memory -/
def spD (K : Frg) (F : MF) : Sp := fun vs H Q _ => ∃ ρ m rs, RelM K H ρ m ∧ EvA K (hid ρ m H) ρ vs rs ∧ ∃ r m', F rs m = some (r, m') ∧
  ∀ v H' ρ', Gr ρ m H ρ' m' H' → RelM K H' ρ' m' → EvR K (hid ρ' m' H') ρ' v r → Q v H'
structure FnG (P : Program) (w : World) (K : Frg) (mg : Str → Option Value) (base : Heap) (k : Nat) (f : Addr) (fd : FuncData) (ps : List Str) (F : MF) : Prop where
  len : ∀ rs m r, F rs m = some r → rs.length = ps.length
  run : ∀ (A : Around) (outer : List Env) (s : Shared) (H : Hp) (args : Args) (us : List Value) (vs : List V) (Q : VK), A.guards = some [] → Room k A → Env0 P w K mg base A outer s H → BindsTo s fd args (ps.zip us) →
    Vals vs us → spD K F vs H Q E0 → codeAny (model P w) A (.call (.ref f) args) (CR CX0 outer P w H s Q E0) s
theorem FnG.up {P : Program} {w : World} {K : Frg} {mg : Str → Option Value} {base : Heap} {j k : Nat} {f : Addr} {fd : FuncData} {ps : List Str} {F : MF} (h : FnG P w K mg base j f fd ps F) (l : j ≤ k) : FnG P w K mg base k f fd ps F :=
  ⟨h.len, fun A o s H a us vs Q g r => h.run A o s H a us vs Q g (r.mono l)⟩
def eCall (F : MF) (fa : MA) : ME := fun e m => match fa e m with
  | some (rs, m1) => F rs m1
  | none => none
theorem EvA.len {K : Frg} {G : Hp} {ρ : List Addr} : ∀ {vs : List V} {rs : List EV}, EvA K G ρ vs rs → vs.length = rs.length
  | _, _, .nil => rfl
  | _, _, .cons _ q => by rw [List.length_cons, List.length_cons, EvA.len q]
section
variable {X : Cx} {k : Nat} {f : Addr} {fd : FuncData} {ps : List Str} {F : MF} {x : Str} {p pos : Pos} {a : Expr} {es : List Expr} {fa : MA}
theorem run_g {pins : List (Addr × Obj)} {σ : L2.St} {H : Hp} {s : Shared} {Q : VK} {us : List Value} {vs : List V} (G : FnG X.prog X.w X.K X.mg X.base k f fd ps F) (gd : X.A.guards = some []) (rm : Room k X.A)
    (bd : Binds X.K fd ps []) (I : Inv X pins σ H s) (r : Vals vs us) (q : spD X.K F vs H Q E0) : wpAny (model X.prog X.w) X.A (call (.ref f) us) (EP X pins σ Q) X.xe s := by
  have hl : us.length = ps.length := by
    obtain ⟨ρ, m, rs, _, ea, rr, m', hF, _⟩ := q
    rw [← r.length, ea.len]
    exact G.len _ _ _ hF
  have bd' : BindsTo s fd ⟨us, []⟩ (ps.zip us) := by
    have b0 := bd s us I.kIn (by rw [List.append_nil]; exact hl)
    rw [List.append_nil] at b0
    exact b0
  refine wpAny_call (codeAny_mono (G.run X.A X.stack s H ⟨us, []⟩ us vs Q gd rm I.env0 bd' r q) fun res s1 hq => ?_)
  match res, hq with
  | .error e, hq => exact False.elim hq
  | .ok (.ret u), hq => exact I.after hq
  | .ok .next, hq => exact False.elim hq
  | .ok .brk, hq => exact False.elim hq
  | .ok .cont, hq => exact False.elim hq
theorem q_call (G : FnG X.prog X.w X.K X.mg X.base k f fd ps F) (gd : X.A.guards = some []) (rm : Room k X.A) (gx : Gl X x) (mx : X.mg x = some (.ref f)) (kp : PySem.W.keepIn X.K (.ref f) = true) (bd : Binds X.K fd ps [])
    (ha : PA X (a :: es) (ra X.K fa)) (hdb : (x == ("__debug__" : Str)) = false := by decide) (he : starEach (a :: es) X.env = (false, eval a X.env) :: starEach es X.env := by rfl) (hpl : (backTo pos (starEach es X.env)).any (·.1) = false := by rfl) :
    PE X (.Call (.Name x p) (a :: es) [] pos) (rd X.K (eCall F fa)) := by
  refine ⟨fun pins s σ H Q I h => ?_⟩
  obtain ⟨ρ, e, m, R, E, r, m', hr, q⟩ := h
  unfold eCall at hr
  split at hr
  · rename_i rs m1 h1
    refine wpAny_Call_Name_kw (ld_glob I gx mx ?_ hdb)
    have hq : ra X.K fa σ H fun vs H1 => spD X.K F vs H1 Q E0 :=
      ra_mk R E h1 fun vs H1 ρ1 g1 R1 E1 q1 => ⟨ρ1, m1, rs, R1, q1, r, m', hr, fun v H' ρ' g2 R2 q2 => q v H' ρ' (g1.trans g2) R2 q2⟩
    refine PySem.W.callWith_K (h₀ := X.base) I.ok.mod.kin kp (thn (ha.run pos pins s σ H _ I hq) fun us s1 ⟨vs, H1, I1, r1, q1⟩ => ⟨I1.kIn, ?_⟩) he hpl
    exact run_g G gd rm bd I1 r1 q1
  · cases hr
end

/-! ### statements -/
inductive Out where
  | nx (e : Env') | rt (r : EV) | bk (e : Env') | ct (e : Env')
abbrev MS := Env' → Mem → Option (Out × Mem)
def Fin' (K : Frg) (ρ : List Addr) (m : Mem) (H : Hp) (D : Ends) (m' : Mem) : Out → Prop
  | .nx e' => ∀ σ' H' ρ', Gr ρ m H ρ' m' H' → RelM K H' ρ' m' → EnvR K (hid ρ' m' H') ρ' σ' e' → D.nx σ' H'
  | .bk e' => ∀ σ' H' ρ', Gr ρ m H ρ' m' H' → RelM K H' ρ' m' → EnvR K (hid ρ' m' H') ρ' σ' e' → D.bk σ' H'
  | .ct e' => ∀ σ' H' ρ', Gr ρ m H ρ' m' H' → RelM K H' ρ' m' → EnvR K (hid ρ' m' H') ρ' σ' e' → D.ct σ' H'
  | .rt r => ∀ v H' ρ', Gr ρ m H ρ' m' H' → RelM K H' ρ' m' → EvR K (hid ρ' m' H') ρ' v r → D.rt v H'
theorem Fin'.gr {K : Frg} {ρ ρ1 : List Addr} {m m1 m' : Mem} {H H1 : Hp} {D : Ends} {o : Out} (g : Gr ρ m H ρ1 m1 H1) (h : Fin' K ρ m H D m' o) : Fin' K ρ1 m1 H1 D m' o := by
  cases o with
  | nx e' => exact fun σ' H' ρ' g' => h σ' H' ρ' (g.trans g')
  | bk e' => exact fun σ' H' ρ' g' => h σ' H' ρ' (g.trans g')
  | ct e' => exact fun σ' H' ρ' g' => h σ' H' ρ' (g.trans g')
  | rt r => exact fun v H' ρ' g' => h v H' ρ' (g.trans g')
def rs (K : Frg) (b : MS) : TS := fun D σ H => ∃ ρ e m, RelM K H ρ m ∧ EnvR K (hid ρ m H) ρ σ e ∧ ∃ o m', b e m = some (o, m') ∧ Fin' K ρ m H D m' o
def sNil : MS := fun e m => some (.nx e, m)
def sSeq (b c : MS) : MS := fun e m => match b e m with
  | some (.nx e1, m1) => c e1 m1
  | r => r
def sSet (i : Nat) (f : ME) : MS := fun e m => match f e m with
  | some (v, m1) => some (.nx (e.set i (some v)), m1)
  | none => none
def sEx (f : ME) : MS := fun e m => match f e m with
  | some (_, m1) => some (.nx e, m1)
  | none => none
def sRet (f : ME) : MS := fun e m => match f e m with
  | some (v, m1) => some (.rt v, m1)
  | none => none
def sRetN : MS := fun _ m => some (.rt (.d .none), m)
def sIf (c : MB) (b d : MS) : MS := fun e m => match c e m with
  | some (k, m1) => if k = true then b e m1 else d e m1
  | none => none
def sBk : MS := fun e m => some (.bk e, m)
def sCt : MS := fun e m => some (.ct e, m)
section
variable {X : Cx} {pos p : Pos} {st : Stmt} {rest : List Stmt} {b c : MS} {a : Expr} {f : ME} {cb : MB}
theorem qs_nil : PSs X [] (rs X.K sNil) := PSs.imp pss_nil fun D σ H ⟨ρ, e, m, R, E, o, m', hr, k⟩ => by
  cases hr
  exact k σ H ρ .refl R E
theorem qs_cons (h1 : PS X st (rs X.K b)) (h2 : PSs X rest (rs X.K c)) : PSs X (st :: rest) (rs X.K (sSeq b c)) := PSs.imp (pss_cons h1 h2) fun D σ H ⟨ρ, e, m, R, E, o, m', hr, k⟩ => by
  unfold sSeq at hr
  split at hr
  · rename_i e1 m1 h
    exact ⟨ρ, e, m, R, E, .nx e1, m1, h, fun σ' H' ρ' g R' E' => ⟨ρ', e1, m1, R', E', o, m', hr, k.gr g⟩⟩
  · rename_i hn
    refine ⟨ρ, e, m, R, E, o, m', hr, ?_⟩
    cases o with
    | nx e1 => exact absurd hr (hn e1 m')
    | bk e1 => exact k
    | ct e1 => exact k
    | rt r => exact k
theorem qs_one (h1 : PS X st (rs X.K b)) : PSs X [st] (rs X.K b) := pss_one h1
theorem q_ret (ha : PE X a (rd X.K f)) : PS X (.Return (some a) pos) (rs X.K (sRet f)) := PS.imp (ps_ret ha) fun D σ H ⟨ρ, e, m, R, E, o, m', hr, k⟩ => by
  unfold sRet at hr
  split at hr
  · rename_i v m1 h
    cases hr
    exact ⟨ρ, e, m, R, E, v, _, h, k⟩
  · cases hr
theorem q_retN : PS X (.Return none pos) (rs X.K sRetN) := PS.imp ps_retN fun D σ H ⟨ρ, e, m, R, E, o, m', hr, k⟩ => by
  cases hr
  exact k _ H ρ .refl R Dt.non
theorem q_if {c : Expr} {xs ys : List Stmt} {d : MS} (hc : PT X c (rb X.K cb)) (h1 : PSs X xs (rs X.K b)) (h2 : PSs X ys (rs X.K d)) : PS X (.If c xs ys pos) (rs X.K (sIf cb b d)) := PS.imp (ps_if hc h1 h2) fun D σ H ⟨ρ, e, m, R, E, o, m', hr, k⟩ => by
  unfold sIf at hr
  split at hr
  · rename_i kk m1 h
    refine rb_mk R E h fun H1 ρ1 g1 R1 E1 => ?_
    cases kk with
    | true =>
      rw [if_pos rfl] at hr ⊢
      exact ⟨ρ1, e, m1, R1, E1, o, m', hr, k.gr g1⟩
    | false =>
      rw [if_neg Bool.false_ne_true] at hr ⊢
      exact ⟨ρ1, e, m1, R1, E1, o, m', hr, k.gr g1⟩
  · cases hr
theorem EnvR.set {K : Frg} {G : Hp} {ρ : List Addr} {σ : L2.St} {e : Env'} {v : V} {x : EV} (i : Nat) (E : EnvR K G ρ σ e) (h : EvR K G ρ v x) : EnvR K G ρ (σ.set i (some v)) (e.set i (some x)) := by
  refine ⟨by rw [List.length_set, List.length_set, E.len], fun j y hy => ?_⟩
  rw [List.getElem?_set] at hy
  rw [List.getElem?_set]
  by_cases hij : i = j
  · subst hij
    rw [if_pos rfl] at hy ⊢
    split at hy
    · rename_i hl
      rw [if_pos (by rw [E.len]; exact hl)]
      cases hy
      exact ⟨v, rfl, h⟩
    · cases hy
  · rw [if_neg hij] at hy ⊢
    exact E.get j y hy
theorem q_set {i : Nat} {x : Str} (hN : X.N.Nodup) (hi : X.N[i]? = some x) (hx : Loc X.env.scope x) (ha : PE X a (rd X.K f)) (hs : swapsWith a (some (.Name x p)) pos.line X.env = pure false := by rfl)
    (hf : X.fn x = true ∨ X.env.scope.names.lookup x = some .local := by first | exact .inl rfl | exact .inr rfl | assumption) : PS X (.Assign [.Name x p] a pos) (rs X.K (sSet i f)) :=
  PS.imp (ps_set hN hi hx ha hs hf) fun D σ H ⟨ρ, e, m, R, E, o, m', hr, k⟩ => by
    unfold sSet at hr
    split at hr
    · rename_i v m1 h
      cases hr
      exact rd_mk R E h fun v1 H1 ρ1 g1 R1 E1 r1 => k _ H1 ρ1 g1 R1 (E1.set i r1)
    · cases hr
theorem q_expr (ha : PE X a (rd X.K f)) (hs : swapsWith a none pos.line X.env = pure false := by rfl) : PS X (.Expr a pos) (rs X.K (sEx f)) := PS.imp (ps_expr ha hs) fun D σ H ⟨ρ, e, m, R, E, o, m', hr, k⟩ => by
  unfold sEx at hr
  split at hr
  · rename_i v m1 h
    cases hr
    exact rd_mk R E h fun v1 H1 ρ1 g1 R1 E1 r1 => k _ H1 ρ1 g1 R1 E1
  · cases hr
theorem q_break : PS X (.Break pos) (rs X.K sBk) := PS.imp ps_break fun D σ H ⟨ρ, e, m, R, E, o, m', hr, k⟩ => by
  cases hr
  exact k σ H ρ .refl R E
theorem q_continue : PS X (.Continue pos) (rs X.K sCt) := PS.imp ps_continue fun D σ H ⟨ρ, e, m, R, E, o, m', hr, k⟩ => by
  cases hr
  exact k σ H ρ .refl R E
end

/-! ### the def's body as a function -/
def live : MO → Bool
  | .gone => false
  | _ => true
def fnOut (n : Nat) : Option (Out × Mem) → Option (EV × Mem)
  | some (.nx _, m') => some (.d .none, m'.take n)
  | some (.rt (.d x), m') => some (.d x, m'.take n)
  | some (.rt (.l i), m') => if i < n then some (.l i, m'.take n) else match m'[i]? with
    | some o => some (.l n, m'.take n ++ [o])
    | none => none
  | some (.rt (.t xs), m') => some (.t xs, m')
  | some (.rt (.o c fs), m') => some (.o c fs, m'.take n)
  | _ => none
def fnM (n N : Nat) (b : MS) : MF := fun rs m => if rs.length = n then fnOut m.length (b (rs.map some ++ List.replicate (N - n) none) m) else none
theorem RelM.pick {K : Frg} {ρ : List Addr} {m : Mem} {H : Hp} (R : RelM K H ρ m) {n i : Nat} {a : Addr} {o : MO} (hn : n ≤ i) (h1 : ρ[i]? = some a) (h2 : m[i]? = some o) :
    RelM K H (ρ.take n ++ [a]) (m.take n ++ [o]) ∧ Same (hid ρ m H) (hid (ρ.take n ++ [a]) (m.take n ++ [o]) H) := by
  have hi := (List.getElem?_eq_some_iff.mp h1).1
  have hl : (ρ.take n).length = n := by rw [List.length_take]; omega
  have hl2 : (m.take n).length = n := by rw [List.length_take, ← R.len]; omega
  have na : a ∉ ρ.take n := by
    intro z
    obtain ⟨j, hj⟩ := List.getElem?_of_mem z
    rw [List.getElem?_take] at hj
    split at hj
    · have hj2 := (List.getElem?_eq_some_iff.mp hj).1
      have := (List.getElem?_inj hj2 R.nd).mp (hj.trans h1.symm)
      omega
    · cases hj
  have at1 : ∀ (j : Nat) (b : Addr) (z : MO), (ρ.take n ++ [a])[j]? = some b → (m.take n ++ [o])[j]? = some z → ∃ t : Nat, ρ[t]? = some b ∧ m[t]? = some z := by
    intro j b z e1 e2
    by_cases hj : j < n
    · rw [List.getElem?_append_left (by omega), List.getElem?_take, if_pos hj] at e1
      rw [List.getElem?_append_left (by omega), List.getElem?_take, if_pos hj] at e2
      exact ⟨j, e1, e2⟩
    · rw [List.getElem?_append_right (by omega), hl] at e1
      rw [List.getElem?_append_right (by omega), hl2] at e2
      cases q : j - n with
      | zero =>
        rw [q] at e1 e2
        simp at e1 e2
        subst e1 e2
        exact ⟨i, h1, h2⟩
      | succ t => rw [q] at e1; simp at e1
  have sm : Same (hid ρ m H) (hid (ρ.take n ++ [a]) (m.take n ++ [o]) H) := fun b w hw => by
    obtain ⟨w1, w2⟩ := hid_some hw
    rw [hid_no, w1]
    rintro ⟨j, z, e1, e2, e3⟩
    obtain ⟨t, t1, t2⟩ := at1 j b z e1 e2
    exact w2 ⟨t, z, t1, t2, e3⟩
  refine ⟨⟨by rw [List.length_append, List.length_append, hl, hl2]; rfl, ?_, fun b hb => ?_, fun j b z e1 e2 => ?_⟩, sm⟩
  · rw [List.nodup_append]
    refine ⟨R.nd.sublist (List.take_sublist _ _), by simp, fun b hb c hc e => ?_⟩
    rw [List.mem_singleton] at hc
    subst hc e
    exact na hb
  · rcases List.mem_append.mp hb with hb | hb
    · exact R.al _ (List.mem_of_mem_take hb)
    · rw [List.mem_singleton] at hb
      subst hb
      exact R.al _ (List.mem_of_getElem? h1)
  · obtain ⟨t, t1, t2⟩ := at1 j b z e1 e2
    have ok := (R.ok t b z t1 t2).mono (G' := hid (ρ.take n ++ [a]) (m.take n ++ [o]) H) (ρ' := ρ) (H' := H) sm (List.prefix_refl _) (.inl rfl)
    cases z with
    | gone => trivial
    | lst ds => exact ok
    | dct kvs => exact ok
    | ins c fs => exact ok
theorem start_env {K : Frg} {G : Hp} {ρ : List Addr} {N : List Str} : ∀ {vs : List V} {rs : List EV}, EvA K G ρ vs rs → vs.length ≤ N.length → EnvR K G ρ (L2.start N vs) (rs.map some ++ List.replicate (N.length - rs.length) none) := by
  intro vs rs h hl
  have e := h.len
  refine ⟨?_, fun i x hx => ?_⟩
  · unfold L2.start
    simp only [List.length_append, List.length_map, List.length_replicate, e]
  · have get : ∀ {vs : List V} {rs : List EV} {i : Nat}, EvA K G ρ vs rs → (rs.map some)[i]? = some (some x) → ∃ v, (vs.map some)[i]? = some (some v) ∧ EvR K G ρ v x := by
      intro vs rs
      induction rs generalizing vs with
      | nil => intro i _ z; simp at z
      | cons r rs ih =>
        intro i hh z
        cases hh with
        | cons h1 h2 =>
          cases i with
          | zero => simp at z; subst z; exact ⟨_, rfl, h1⟩
          | succ i =>
            obtain ⟨v, v1, v2⟩ := ih h2 (by simpa using z)
            exact ⟨v, by simpa using v1, v2⟩
    by_cases hi : i < rs.length
    · rw [List.getElem?_append_left (by rw [List.length_map]; exact hi)] at hx
      obtain ⟨v, v1, v2⟩ := get h hx
      refine ⟨v, ?_, v2⟩
      unfold L2.start
      rw [List.getElem?_append_left (by rw [List.length_map, e]; exact hi)]
      exact v1
    · rw [List.getElem?_append_right (by rw [List.length_map]; omega), List.getElem?_replicate] at hx
      split at hx <;> cases hx
section
variable {P : Program} {w : World} {K : Frg} {mg : Str → Option Value} {base : Heap}
/-- what a def's body is walked in -/
abbrev bodyCx (P : Program) (w : World) (K : Frg) (mg : Str → Option Value) (base : Heap) (N : List Str) (qual : Str) (st : Stmt) (f : Addr) (cdv : Value) (A : Around) (outer : List Env) (s : Shared) (H : Hp) : Cx :=
  (cxOf CX0 P w K mg base N qual (defScope st) f cdv A outer s H E0).nox
theorem fng {x qual : Str} {st : Stmt} {f : Addr} {fd : FuncData} {N ps : List Str} {k : Nat} {b : MS} (F : Fun K x qual st f fd) (S : FnScope N ps (defScope st)) (hps : ps.length ≤ N.length)
    (body : ∀ (cdv : Value) (A : Around) (outer : List Env) (s : Shared) (H : Hp), A.guards = some [] → Room k (A.deeper (envOfC qual (defScope st) s.heap.objs.size f cdv)) →
      PSs (bodyCx P w K mg base N qual st f cdv A outer s H) (defBody st) (rs K b)) : FnG P w K mg base (k + 1) f fd ps (fnM ps.length N.length b) := by
  obtain ⟨oc, od, kV, doc, pm, an, cdv, ct, osl, rfl, lk, hcd⟩ := F.ex
  refine ⟨fun rs m r h => ?_, fun A outer s H args us vs Q gd hr e0 hb r hsp => ?_⟩
  · unfold fnM at h
    split at h
    · assumption
    · cases h
  obtain ⟨ρ, m, rs, R, ea, rr, m', hF, k0⟩ := hsp
  unfold fnM at hF
  split at hF
  case isFalse => cases hF
  case isTrue hlen =>
  have hlv : vs.length = ps.length := by rw [ea.len]; exact hlen
  have kx : K.In s.heap := e0.mod.kin.keeps fun b o e => (e0.bs b o e).1
  have lim : s.heap.NoLimit := e0.mod.nolimit.keeps fun b o e => (e0.bs b o e).1
  have kinds : ∀ y ∈ ps.zip us, (defScope st).names.lookup y.1 = some .local ∨ ((defScope st).names.lookup y.1 = some .cell ∧ ((cellsFrom (s.heap.objs.size + 1) (defScope st).names []).lookup y.1).isSome = true) := by
    rintro ⟨nm, v⟩ hy
    rcases S.par nm (List.of_mem_zip hy).1 with q | q
    · exact Or.inl q
    · exact Or.inr ⟨q, PySem.W.cellsFrom_some _ _ _ (Or.inl q)⟩
  refine codeAny_call_function hr.depth (kx _ _ lk) rfl S.co S.gen rfl (PySem.W.codeRec_of kx hcd) (hb _ _ _ _ ?_)
  refine wpAny_newFunctionEnv_cells S.kind kinds fun env he s1 x1 => ?_
  subst he
  refine ⟨lim.keeps x1.toInCall.keep, codeAny_func ?_⟩
  have ht := body cdv A outer s H gd (hr.deeper _)
  have I0 : Inv (cxOf CX0 P w K mg base N qual (defScope st) f cdv A outer s H E0) [] (L2.start N vs) H s1 := inv_start S hr.hd e0 hlv r x1
  have E1 : EnvR K (hid ρ m H) ρ (L2.start N vs) (rs.map some ++ List.replicate (N.length - ps.length) none) := by
    have := start_env (N := N) ea (by omega)
    rw [hlen] at this
    exact this
  -- what the body leads to
  have goal : ∃ o m1, b (rs.map some ++ List.replicate (N.length - ps.length) none) m = some (o, m1) ∧ Fin' K ρ m H { nx := fun _ H' => Q .non H', rt := Q } m1 o := by
    cases hb2 : b (rs.map some ++ List.replicate (N.length - ps.length) none) m with
    | none => rw [hb2] at hF; cases hF
    | some om =>
      obtain ⟨o, m1⟩ := om
      rw [hb2] at hF
      refine ⟨o, m1, rfl, ?_⟩
      have cut : ∀ {H' : Hp} {ρ' : List Addr}, Gr ρ m H ρ' m1 H' → RelM K H' ρ' m1 → ρ'.take m.length = ρ ∧ RelM K H' ρ (m1.take m.length) ∧ Gr ρ m H ρ (m1.take m.length) H' ∧ Same (hid ρ' m1 H') (hid ρ (m1.take m.length) H') := by
        intro H' ρ' g R'
        have e1 : ρ'.take m.length = ρ := by rw [← R.len]; exact take_pre g.pre
        have R2 := R'.take m.length
        have s2 : Same (hid ρ' m1 H') (hid (ρ'.take m.length) (m1.take m.length) H') := hid_take _
        rw [e1] at R2 s2
        exact ⟨e1, R2, ⟨List.prefix_refl _, g.same.trans s2⟩, s2⟩
      cases o with
      | nx e' =>
        cases hF
        intro σ' H' ρ' g R' _
        obtain ⟨_, R2, g2, _⟩ := cut g R'
        exact k0 _ H' ρ g2 R2 Dt.non
      | bk e' => cases hF
      | ct e' => cases hF
      | rt z =>
        cases z with
        | d y =>
          cases hF
          intro v H' ρ' g R' hv
          obtain ⟨_, R2, g2, s2⟩ := cut g R'
          exact k0 v H' ρ g2 R2 (Dt.mono s2 _ hv)
        | f ds => cases hF
        | t xs =>
          cases hF
          exact fun v H' ρ' g R' hv => k0 v H' ρ' g R' hv
        | o c fs =>
          cases hF
          intro v H' ρ' g R' hv
          obtain ⟨_, R2, g2, s2⟩ := cut g R'
          obtain ⟨a, C, dx, ys, h1, h2, h3, h4⟩ := hv
          exact k0 v H' ρ g2 R2 ⟨a, C, dx, ys, h1, h2, s2 _ _ h3, h4.mono s2⟩
        | l i =>
          simp only [fnOut] at hF
          split at hF
          · rename_i hi
            cases hF
            intro v H' ρ' g R' hv
            obtain ⟨e1, R2, g2, s2⟩ := cut g R'
            obtain ⟨a, h1, h2⟩ := hv
            refine k0 v H' ρ g2 R2 ⟨a, ?_, h2⟩
            rw [← e1, List.getElem?_take, if_pos hi]
            exact h1
          · rename_i hi
            split at hF
            · rename_i o2 ho
              cases hF
              intro v H' ρ' g R' hv
              obtain ⟨a, h1, h2⟩ := hv
              obtain ⟨R2, s2⟩ := R'.pick (Nat.le_of_not_lt hi) h1 ho
              have e1 : ρ'.take m.length = ρ := by rw [← R.len]; exact take_pre g.pre
              rw [e1] at R2 s2
              refine k0 v H' (ρ ++ [a]) ⟨List.prefix_append _ _, g.same.trans s2⟩ R2 ⟨a, ?_, h2⟩
              rw [← R.len, List.getElem?_append_right (Nat.le_refl _), Nat.sub_self]
              rfl
            · cases hF
  obtain ⟨o, m1, hb2, hfin⟩ := goal
  refine wpAny_mono (ht.nox.run [] s1 (L2.start N vs) H _ I0 ⟨ρ, _, m, R, E1, o, m1, hb2, hfin⟩) (fun fl s2 hs => ?_) fun e s2 hs => hs
  have fin : ∀ {σ' : L2.St} {H' : Hp} {v : V} {u : Value}, Inv (cxOf CX0 P w K mg base N qual (defScope st) f cdv A outer s H E0) [] σ' H' s2 → RelV v u → Q v H' → CE outer P w H s Q u s2 :=
    fun {σ' H' v u} J rv q => ⟨v, H', J.os, J.bare, J.base, J.hok, rv, q⟩
  match fl, hs with
  | .ret u, hs =>
    obtain ⟨v, σ', H', J, rv, q⟩ := hs
    exact fin J rv q
  | .next, hs =>
    obtain ⟨σ', H', J, q⟩ := hs
    exact fin (v := V.non) (u := Value.none) J rfl q
  | .brk, hs =>
    obtain ⟨_, _, _, q⟩ := hs
    exact False.elim q
  | .cont, hs =>
    obtain ⟨_, _, _, q⟩ := hs
    exact False.elim q
end
end DL
set_option Elab.async false
set_option linter.all false
set_option maxRecDepth 100000
set_option maxHeartbeats 4000000
namespace DL
open PySem PySem.Spec PyProof.Rows L2 RT

/-! ### targets -/
abbrev MG := EV → Env' → Mem → Option Env'
def rg (K : Frg) (vs : List Nat) (t : MG) : TG := fun v σ H Q => ∃ ρ e m x, RelM K H ρ m ∧ EnvR K (hid ρ m H) ρ σ e ∧ EvR K (hid ρ m H) ρ v x ∧ ∃ e', t x e m = some e' ∧
  ∀ σ', wipe σ' vs = wipe σ vs → EnvR K (hid ρ m H) ρ σ' e' → Q σ' H
def gNm (i : Nat) : MG := fun x e _ => some (e.set i (some x))
def setAll (e : Env') : List Nat → List PyData → Env'
  | i :: is, d :: ds => setAll (e.set i (some (.d d))) is ds
  | _, _ => e
def gTp (is : List Nat) : MG := fun x e _ => match x with
  | .d (.tuple ds) => if ds.length = is.length then some (setAll e is ds) else none
  | _ => none
theorem wipe_get {σ : L2.St} : ∀ {vs : List Nat} {i : Nat}, (wipe σ vs)[i]? = if i ∈ vs ∧ i < σ.length then some none else σ[i]?
  | [], i => by simp [wipe]
  | v :: vs, i => by
    show ((wipe σ vs).set v none)[i]? = _
    rw [List.getElem?_set, wipe_length, wipe_get]
    by_cases h : v = i
    · subst h
      rw [if_pos rfl]
      by_cases hl : v < σ.length
      · simp [hl]
      · simp only [hl, if_false, and_false]
        rw [List.getElem?_eq_none_iff.mpr (by omega)]
    · rw [if_neg h]
      have : (i ∈ v :: vs) ↔ i ∈ vs := by
        rw [List.mem_cons]
        exact ⟨fun z => z.elim (fun z => absurd z.symm h) id, .inr⟩
      simp only [this]
theorem wipe_set {σ : L2.St} {vs : List Nat} {i : Nat} {x : Option V} (h : i ∈ vs) : wipe (σ.set i x) vs = wipe σ vs := by
  apply List.ext_getElem?
  intro j
  rw [wipe_get, wipe_get, List.length_set, List.getElem?_set]
  by_cases hj : j ∈ vs ∧ j < σ.length
  · rw [if_pos hj, if_pos hj]
  · rw [if_neg hj, if_neg hj]
    by_cases hij : i = j
    · subst hij
      rw [if_pos rfl]
      have hl : ¬ i < σ.length := fun z => hj ⟨h, z⟩
      rw [if_neg hl, List.getElem?_eq_none_iff.mpr (by omega)]
    · rw [if_neg hij]
theorem setAll_len : ∀ {e : Env'} {is : List Nat} {ds : List PyData}, (setAll e is ds).length = e.length
  | e, [], [] => rfl
  | e, [], _ :: _ => rfl
  | e, _ :: _, [] => rfl
  | e, i :: is, d :: ds => by unfold setAll; rw [setAll_len, List.length_set]
def rgs (K : Frg) (vs : List Nat) (is : List Nat) : TGs := fun ws σ H Q => ∃ ρ e m ds, RelM K H ρ m ∧ EnvR K (hid ρ m H) ρ σ e ∧ DtA K (hid ρ m H) ws ds ∧ ds.length = is.length ∧
  ∀ σ', wipe σ' vs = wipe σ vs → EnvR K (hid ρ m H) ρ σ' (setAll e is ds) → Q σ' H
theorem PG.imp {X : Cx} {e : Expr} {t t' : TG} (h : PG X e t) (w : ∀ v σ H Q, t' v σ H Q → t v σ H Q) : PG X e t' := ⟨fun pins s σ H v u Q I r q => h.run pins s σ H v u Q I r (w _ _ _ _ q)⟩
theorem PGs.imp {X : Cx} {e : List Expr} {t t' : TGs} (h : PGs X e t) (w : ∀ v σ H Q, t' v σ H Q → t v σ H Q) : PGs X e t' := ⟨fun pins s σ H v u Q I r q => h.run pins s σ H v u Q I r (w _ _ _ _ q)⟩
section
variable {X : Cx} {vs is : List Nat} {i : Nat} {x : Str} {p pos : Pos} {a : Expr} {es : List Expr}
theorem q_gname (hN : X.N.Nodup) (hi : X.N[i]? = some x) (hx : Loc X.env.scope x) (hv : i ∈ vs := by simp) (hf : X.fn x = true ∨ X.env.scope.names.lookup x = some .local := by first | exact .inl rfl | exact .inr rfl | assumption) : PG X (.Name x p) (rg X.K vs (gNm i)) :=
  PG.imp (pg_name hN hi hx hf) fun v σ H Q ⟨ρ, e, m, y, R, E, hy, e', he, k⟩ => by
    cases he
    exact k _ (wipe_set hv) (E.set i hy)
theorem q_gnil : PGs X [] (rgs X.K vs []) := PGs.imp pgs_nil fun ws σ H Q ⟨ρ, e, m, ds, R, E, hd, hl, k⟩ => by
  cases ds with
  | nil => cases hd; exact ⟨rfl, k σ rfl (by unfold setAll; exact E)⟩
  | cons d ds => cases hl
theorem q_gcons (hN : X.N.Nodup) (hi : X.N[i]? = some x) (hx : Loc X.env.scope x) (h2 : PGs X es (rgs X.K vs is)) (hv : i ∈ vs := by simp) (hf : X.fn x = true ∨ X.env.scope.names.lookup x = some .local := by first | exact .inl rfl | exact .inr rfl | assumption)
    (hs : (assignEach (.Name x p :: es) X.env).map (·.2) = assign (.Name x p) X.env :: (assignEach es X.env).map (·.2) := by rfl) : PGs X (.Name x p :: es) (rgs X.K vs (i :: is)) :=
  PGs.imp (pgs_cons (pg_name hN hi hx hf) h2 hs) fun ws σ H Q ⟨ρ, e, m, ds, R, E, hd, hl, k⟩ => by
    cases hd with
    | nil => cases hl
    | cons h q =>
      rename_i v d ds' vs'
      refine ⟨_, _, rfl, ?_⟩
      refine ⟨ρ, _, m, _, R, E.set i (x := .d _) h, q, by simpa using hl, fun σ' hw E' => k σ' (hw.trans (wipe_set hv)) E'⟩
theorem q_gtup {k : Nat} {n : Nat} (hc : X.calm = true) (h : PGs X es (rgs X.K vs is)) (hn : (assignEach es X.env).length = n := by rfl) (hst : (assignEach es X.env).findIdx? (·.1) = none := by rfl) (hl : is.length = n := by rfl) : PG X (.Tuple es k pos) (rg X.K vs (gTp is)) :=
  PG.imp (pg_tup hc h hn hst) fun v σ H Q ⟨ρ, e, m, y, R, E, hy, e', he, kk⟩ => by
    unfold gTp at he
    split at he
    · split at he
      · rename_i hlen
        cases he
        cases hy with
        | tup h1 h2 =>
        exact ⟨_, _, rfl, sqt_same hid_le h1, by rw [h2.len, hlen, hl], ρ, e, m, _, R, E, h2, hlen, kk⟩
      · cases he
    · cases he
end
/-- t = e for any target -/
def sAsg (f : ME) (g : MG) : MS := fun e m => match f e m with
  | some (v, m1) => match g v e m1 with
    | some e1 => some (.nx e1, m1)
    | none => none
  | none => none
section
variable {X : Cx} {vs : List Nat} {p pos : Pos} {a tg : Expr} {f : ME} {g : MG}
theorem q_asg (ha : PE X a (rd X.K f)) (hg : PG X tg (rg X.K vs g)) (hs : swapsWithSole [tg] a pos.line X.env = pure false := by rfl) (hw : swappedStores [tg] a X.env = pure none := by rfl) (h1 : (assignEach [tg] X.env).map (·.2) = [assign tg X.env] := by rfl) :
    PS X (.Assign [tg] a pos) (rs X.K (sAsg f g)) :=
  PS.imp (ps_asg ha hg hs hw h1) fun D σ H ⟨ρ, e, m, R, E, o, m', hr, k⟩ => by
    unfold sAsg at hr
    split at hr
    · rename_i v m1 h
      split at hr
      · rename_i e1 h2
        cases hr
        exact rd_mk R E h fun v1 H1 ρ1 g1 R1 E1 r1 => ⟨ρ1, e, _, v, R1, E1, r1, e1, h2, fun σ' _ E' => k σ' H1 ρ1 g1 R1 E'⟩
      · cases hr
    · cases hr
end

/-! ### what is walked: the items, and what must stay so while they are walked -/
abbrev MIt := Env' → Mem → Option (List EV × (Mem → Prop) × Mem)
def Serves (K : Frg) (ρ : List Addr) (m : Mem) (H : Hp) (J : It) (xs : List EV) (C : Mem → Prop) : Prop := ∀ ρ2 m2 H2, Gr ρ m H ρ2 m2 H2 → RelM K H2 ρ2 m2 → C m2 → ∀ i, (xs.length ≤ i → J.stop i H2) ∧
  ∀ x, xs[i]? = some x → J.go i H2 ∧ ∀ v H3, J.yld i H2 v H3 → Same H2 H3 ∧ EvR K (hid ρ2 m2 H3) ρ2 v x
def ri (K : Frg) (f : MIt) : TI := fun σ H R => ∃ ρ e m, RelM K H ρ m ∧ EnvR K (hid ρ m H) ρ σ e ∧ ∃ xs C m', f e m = some (xs, C, m') ∧
  ∀ J H' ρ', Gr ρ m H ρ' m' H' → RelM K H' ρ' m' → Serves K ρ' m' H' J xs C → R J H'
theorem PI.imp {X : Cx} {tg e : Expr} {t t' : TI} (h : PI X tg e t) (w : ∀ σ H R, t' σ H R → t σ H R) : PI X tg e t' := ⟨fun pins s σ H R I q => h.run pins s σ H R I (w _ _ _ q)⟩
def noC : Mem → Prop := fun _ => True
/-- the list at a place stays as it is -/
def isC (j : Nat) (ds : List PyData) : Mem → Prop := fun m => m[j]? = some (.lst ds)
def iAny (f : ME) : MIt := fun e m => match f e m with
  | some (.d (.list ds), m1) => some (ds.map EV.d, noC, m1)
  | some (.d (.tuple ds), m1) => some (ds.map EV.d, noC, m1)
  | some (.d (.str s), m1) => some (s.cps.toList.map fun c => EV.d (.str ⟨#[c]⟩), noC, m1)
  | some (.l j, m1) => match m1[j]? with
    | some (.lst ds) => some (ds.map EV.d, isC j ds, m1)
    | _ => none
  | _ => none
def rgL (lo : Int) (n : Nat) : List EV := (List.range n).map fun i => EV.d (.int (lo + (i : Nat)))
def iRg1 (f : ME) : MIt := fun e m => match f e m with
  | some (.d (.int j), m1) => if -(2 ^ 62) ≤ j ∧ j < 2 ^ 62 then some (rgL 0 j.toNat, noC, m1) else none
  | _ => none
def iRg2 (f g : ME) : MIt := fun e m => match f e m with
  | some (.d (.int i), m1) => match g e m1 with
    | some (.d (.int j), m2) => if -(2 ^ 62) ≤ i ∧ i < 2 ^ 62 ∧ -(2 ^ 62) ≤ j ∧ j < 2 ^ 62 then some (rgL i (j - i).toNat, noC, m2) else none
    | _ => none
  | _ => none
def iRv (f : ME) : MIt := fun e m => match f e m with
  | some (.d (.list ds), m1) => some (ds.reverse.map EV.d, noC, m1)
  | some (.d (.tuple ds), m1) => some (ds.reverse.map EV.d, noC, m1)
  | some (.l j, m1) => match m1[j]? with
    | some (.lst ds) => some (ds.reverse.map EV.d, isC j ds, m1)
    | _ => none
  | _ => none
def iEn (f : ME) : MIt := fun e m => match f e m with
  | some (.d (.list ds), m1) => some (ds.zipIdx.map fun p => EV.d (.tuple [.int (p.2 : Nat), p.1]), noC, m1)
  | some (.l j, m1) => match m1[j]? with
    | some (.lst ds) => some (ds.zipIdx.map fun p => EV.d (.tuple [.int (p.2 : Nat), p.1]), isC j ds, m1)
    | _ => none
  | _ => none
theorem dt_list {K : Frg} {G : Hp} {v : V} {ds : List PyData} (h : Dt K G v (.list ds)) : ∃ a xs, v = .ref a ∧ G a = some (.lst xs) ∧ DtA K G xs ds := by
  cases h with | lst h q => exact ⟨_, _, rfl, h, q⟩
theorem dt_tuple {K : Frg} {G : Hp} {v : V} {ds : List PyData} (h : Dt K G v (.tuple ds)) : ∃ a xs, v = .ref a ∧ SqT K G a xs ∧ DtA K G xs ds := by
  cases h with | tup h q => exact ⟨_, _, rfl, h, q⟩
section
variable {K : Frg} {ρ : List Addr} {m : Mem} {H : Hp}
/-- a list of data, or at a place: what it holds at any later state -/
def Src (K : Frg) (ρ : List Addr) (m : Mem) (H : Hp) (a : Addr) (ds : List PyData) (C : Mem → Prop) : Prop := ∀ ρ2 m2 H2, Gr ρ m H ρ2 m2 H2 → RelM K H2 ρ2 m2 → C m2 → ∃ xs, H2 a = some (.lst xs) ∧ DtA K (hid ρ2 m2 H2) xs ds
theorem src_d {a : Addr} {xs : List V} {ds : List PyData} (h : hid ρ m H a = some (.lst xs)) (q : DtA K (hid ρ m H) xs ds) : Src K ρ m H a ds noC := fun ρ2 m2 H2 g R _ => ⟨xs, (hid_some (g.same _ _ h)).1, DtA.mono g.same _ q⟩
theorem src_l {a : Addr} {j : Nat} {ds : List PyData} (h : ρ[j]? = some a) : Src K ρ m H a ds (isC j ds) := fun ρ2 m2 H2 g R c => R.ok j a _ (pre_get g.pre h) c
theorem srv_list {a : Addr} {ds : List PyData} {C : Mem → Prop} (s : Src K ρ m H a ds C) : Serves K ρ m H (Itl K a) (ds.map EV.d) C := by
  intro ρ2 m2 H2 g R c i
  obtain ⟨xs, h2, q⟩ := s ρ2 m2 H2 g R c
  have h3 : SqL K H2 a xs := .inl (.inl h2)
  refine ⟨fun hl => ⟨xs, h3, by rw [q.len]; simpa using hl⟩, fun x hx => ?_⟩
  rw [List.getElem?_map] at hx
  cases e : ds[i]? with
  | none => rw [e] at hx; cases hx
  | some d =>
    rw [e] at hx
    cases hx
    obtain ⟨v, hv, hd⟩ := q.get e
    refine ⟨⟨xs, v, h3, hv⟩, fun w H3 hy => ?_⟩
    obtain ⟨rfl, hy⟩ := hy
    have := (hy xs h3).symm.trans hv
    cases this
    exact ⟨Same.refl _, hd⟩
theorem srv_tup {a : Addr} {xs : List V} {ds : List PyData} (h : SqT K (hid ρ m H) a xs) (q : DtA K (hid ρ m H) xs ds) : Serves K ρ m H (Itt K a) (ds.map EV.d) noC := by
  intro ρ2 m2 H2 g R _ i
  have h3 : SqT K H2 a xs := sqt_same hid_le (sqt_same g.same h)
  refine ⟨fun hl => ⟨xs, h3, by rw [q.len]; simpa using hl⟩, fun x hx => ?_⟩
  rw [List.getElem?_map] at hx
  cases e : ds[i]? with
  | none => rw [e] at hx; cases hx
  | some d =>
    rw [e] at hx
    cases hx
    obtain ⟨v, hv, hd⟩ := q.get e
    refine ⟨⟨xs, v, h3, hv⟩, fun w H3 hy => ?_⟩
    obtain ⟨rfl, hy⟩ := hy
    have := (hy xs h3).symm.trans hv
    cases this
    exact ⟨Same.refl _, Dt.mono g.same d hd⟩
theorem srv_str {s : Str} : Serves K ρ m H (Its s) (s.cps.toList.map fun c => EV.d (.str ⟨#[c]⟩)) noC := by
  intro ρ2 m2 H2 g R _ i
  refine ⟨fun hl => by show s.cps.size ≤ i; simpa using hl, fun x hx => ?_⟩
  rw [List.getElem?_map] at hx
  cases e : s.cps.toList[i]? with
  | none => rw [e] at hx; cases hx
  | some c =>
    rw [e] at hx
    cases hx
    have hi := (List.getElem?_eq_some_iff.mp e).1
    refine ⟨by show i < s.cps.size; simpa using hi, fun w H3 hy => ?_⟩
    obtain ⟨rfl, c', h1, rfl⟩ := hy
    have h2 : s.cps.toList[i]? = some c' := by rw [Array.getElem?_toList]; exact h1
    rw [e] at h2
    cases h2
    exact ⟨Same.refl _, Dt.str _⟩
theorem rgL_get {lo : Int} {n i : Nat} {x : EV} (h : (rgL lo n)[i]? = some x) : i < n ∧ x = .d (.int (lo + (i : Nat))) := by
  unfold rgL at h
  rw [List.getElem?_map] at h
  cases e : (List.range n)[i]? with
  | none => rw [e] at h; cases h
  | some j =>
    rw [e] at h
    cases h
    have hi : i < n := by
      have := (List.getElem?_eq_some_iff.mp e).1
      simpa using this
    rw [List.getElem?_range hi] at e
    cases e
    exact ⟨hi, rfl⟩
theorem srv_rng {lo : Int} {n : Nat} : Serves K ρ m H (Itr lo n) (rgL lo n) noC := by
  intro ρ2 m2 H2 g R _ i
  refine ⟨fun hl => by show n ≤ i; unfold rgL at hl; simpa using hl, fun x hx => ?_⟩
  obtain ⟨hi, rfl⟩ := rgL_get hx
  refine ⟨hi, fun w H3 hy => ?_⟩
  obtain ⟨rfl, rfl⟩ := hy
  exact ⟨Same.refl _, Dt.int _⟩
theorem srv_rev {a : Addr} {ds : List PyData} {n : Nat} {C : Mem → Prop} (s : Src K ρ m H a ds C) (hn : n = ds.length) : Serves K ρ m H (Itv K a n) (ds.reverse.map EV.d) C := by
  subst hn
  intro ρ2 m2 H2 g R c i
  obtain ⟨xs, h2, q⟩ := s ρ2 m2 H2 g R c
  have h3 : SqL K H2 a xs := .inl (.inl h2)
  refine ⟨fun hl => by show ds.length ≤ i; simpa using hl, fun x hx => ?_⟩
  rw [List.getElem?_map] at hx
  cases e : ds.reverse[i]? with
  | none => rw [e] at hx; cases hx
  | some d =>
    rw [e] at hx
    cases hx
    have hi : i < ds.length := by
      have := (List.getElem?_eq_some_iff.mp e).1
      simpa using this
    rw [List.getElem?_reverse hi] at e
    obtain ⟨v, hv, hd⟩ := q.get e
    refine ⟨⟨hi, xs, v, h3, hv⟩, fun w H3 hy => ?_⟩
    obtain ⟨rfl, hy⟩ := hy
    have := (hy xs h3).symm.trans hv
    cases this
    exact ⟨Same.refl _, hd⟩
theorem srv_revT {a : Addr} {xs : List V} {ds : List PyData} (h : SqT K (hid ρ m H) a xs) (q : DtA K (hid ρ m H) xs ds) : Serves K ρ m H (ItvT K a xs.length) (ds.reverse.map EV.d) noC := by
  intro ρ2 m2 H2 g R _ i
  have h3 : SqT K H2 a xs := sqt_same hid_le (sqt_same g.same h)
  refine ⟨fun hl => by show xs.length ≤ i; rw [q.len]; simpa using hl, fun x hx => ?_⟩
  rw [List.getElem?_map] at hx
  cases e : ds.reverse[i]? with
  | none => rw [e] at hx; cases hx
  | some d =>
    rw [e] at hx
    cases hx
    have hi : i < ds.length := by
      have := (List.getElem?_eq_some_iff.mp e).1
      simpa using this
    rw [List.getElem?_reverse hi] at e
    obtain ⟨v, hv, hd⟩ := q.get e
    rw [← q.len] at hv hi
    refine ⟨⟨hi, xs, v, h3, hv⟩, fun w H3 hy => ?_⟩
    obtain ⟨rfl, hy⟩ := hy
    have := (hy xs h3).symm.trans hv
    cases this
    exact ⟨Same.refl _, Dt.mono g.same d hd⟩
theorem srv_enum {a : Addr} {ds : List PyData} {C : Mem → Prop} (s : Src K ρ m H a ds C) : Serves K ρ m H (Ite K a) (ds.zipIdx.map fun p => EV.d (.tuple [.int (p.2 : Nat), p.1])) C := by
  intro ρ2 m2 H2 g R c i
  obtain ⟨xs, h2, q⟩ := s ρ2 m2 H2 g R c
  have h3 : SqL K H2 a xs := .inl (.inl h2)
  refine ⟨fun hl => ⟨xs, h3, by rw [q.len]; simpa using hl⟩, fun x hx => ?_⟩
  rw [List.getElem?_map, List.getElem?_zipIdx] at hx
  cases e : ds[i]? with
  | none => rw [e] at hx; cases hx
  | some d =>
    rw [e] at hx
    cases hx
    obtain ⟨v, hv, hd⟩ := q.get e
    refine ⟨⟨xs, v, h3, hv⟩, fun w H3 hy => ?_⟩
    obtain ⟨T, z, rfl, nT, rfl, hz⟩ := hy
    have := (hz xs h3).symm.trans hv
    cases this
    obtain ⟨R3, g3, e3⟩ := R.new (o := .tup [.int (i : Nat), v]) nT
    refine ⟨fun b u hb => by rw [upd_ne (ne_of_none hb nT)]; exact hb, ?_⟩
    refine Dt.tup (.inl (.inl e3)) (.cons ?_ (.cons (Dt.mono g3.same d hd) .nil))
    simp only [Nat.zero_add]
    exact Dt.int _
end
section
variable {X : Cx} {tg a b : Expr} {f g : ME} {p pos : Pos}
theorem q_iany (ha : PE X a (rd X.K f)) : PI X tg a (ri X.K (iAny f)) := by
  refine ⟨fun pins s σ H Rr I h => ?_⟩
  obtain ⟨ρ, e, m, R, E, xs, C, m', hr, k⟩ := h
  unfold iAny at hr
  split at hr
  · rename_i ds m1 h
    cases hr
    refine (pi_list (tg := tg) ha).run pins s σ H Rr I (rd_mk R E h fun v H1 ρ1 g1 R1 E1 r1 => ?_)
    obtain ⟨a, ys, rfl, h2, h3⟩ := dt_list r1
    exact ⟨a, rfl, ⟨ys, .inl (.inl (hid_some h2).1)⟩, k _ H1 ρ1 g1 R1 (srv_list (src_d h2 h3))⟩
  · rename_i ds m1 h
    cases hr
    refine (pi_tup (tg := tg) ha).run pins s σ H Rr I (rd_mk R E h fun v H1 ρ1 g1 R1 E1 r1 => ?_)
    obtain ⟨a, ys, rfl, h2, h3⟩ := dt_tuple r1
    exact ⟨a, rfl, ⟨ys, sqt_same hid_le h2⟩, k _ H1 ρ1 g1 R1 (srv_tup h2 h3)⟩
  · rename_i z m1 h
    cases hr
    refine (pi_str (tg := tg) ha).run pins s σ H Rr I (rd_mk R E h fun v H1 ρ1 g1 R1 E1 r1 => ?_)
    cases r1
    exact ⟨z, rfl, k _ H1 ρ1 g1 R1 srv_str⟩
  · rename_i j m1 h
    split at hr
    · rename_i ds hj
      cases hr
      refine (pi_list (tg := tg) ha).run pins s σ H Rr I (rd_mk R E h fun v H1 ρ1 g1 R1 E1 r1 => ?_)
      obtain ⟨a, a1, rfl⟩ := r1
      obtain ⟨ys, y1, _⟩ := R1.ok j a _ a1 hj
      exact ⟨a, rfl, ⟨ys, .inl (.inl y1)⟩, k _ H1 ρ1 g1 R1 (srv_list (src_l a1))⟩
    · cases hr
  · cases hr
theorem q_irng1 (hg : Gl X "range") (hm : X.mg "range" = none) (ha : PE X a (rd X.K f)) (hs : starEach [a] X.env = [(false, eval a X.env)] := by rfl) : PI X tg (.Call (.Name "range" p) [a] [] pos) (ri X.K (iRg1 f)) :=
  PI.imp (pi_range1 hg hm (pa_cons ha pa_nil hs) hs) fun σ H Rr ⟨ρ, e, m, R, E, xs, C, m', hr, k⟩ => by
    unfold iRg1 at hr
    split at hr
    · rename_i j m1 h
      split at hr
      · rename_i hj
        cases hr
        refine rd_mk R E h fun v H1 ρ1 g1 R1 E1 r1 => ?_
        cases r1
        exact ⟨j, rfl, hj.1, hj.2, k _ H1 ρ1 g1 R1 srv_rng⟩
      · cases hr
    · cases hr
theorem q_irng2 (hg : Gl X "range") (hm : X.mg "range" = none) (ha : PE X a (rd X.K f)) (hb : PE X b (rd X.K g)) (hs : starEach [a, b] X.env = [(false, eval a X.env), (false, eval b X.env)] := by rfl) (hs2 : starEach [b] X.env = [(false, eval b X.env)] := by rfl) :
    PI X tg (.Call (.Name "range" p) [a, b] [] pos) (ri X.K (iRg2 f g)) :=
  PI.imp (pi_range2 hg hm (pa_cons ha (pa_cons hb pa_nil hs2) (by rw [hs, hs2])) hs hs2) fun σ H Rr ⟨ρ, e, m, R, E, xs, C, m', hr, k⟩ => by
    unfold iRg2 at hr
    split at hr
    · rename_i i m1 h
      split at hr
      · rename_i j m2 h2
        split at hr
        · rename_i hj
          cases hr
          refine rd_mk R E h fun v H1 ρ1 g1 R1 E1 r1 => ?_
          refine rd_mk R1 E1 h2 fun v2 H2 ρ2 g2 R2 E2 r2 => ?_
          cases r1
          cases r2
          exact ⟨i, j, rfl, hj, k _ H2 ρ2 (g1.trans g2) R2 srv_rng⟩
        · cases hr
      · cases hr
    · cases hr
theorem q_irev (hg : Gl X "reversed") (hm : X.mg "reversed" = none) (ha : PE X a (rd X.K f)) (hs : starEach [a] X.env = (false, eval a X.env) :: starEach [] X.env := by rfl) : PI X tg (.Call (.Name "reversed" p) [a] [] pos) (ri X.K (iRv f)) :=
  PI.imp (pi_revA hg hm ha hs) fun σ H Rr ⟨ρ, e, m, R, E, xs, C, m', hr, k⟩ => by
    unfold iRv at hr
    split at hr
    · rename_i ds m1 h
      cases hr
      refine rd_mk R E h fun v H1 ρ1 g1 R1 E1 r1 => ?_
      obtain ⟨a, ys, rfl, h2, h3⟩ := dt_list r1
      exact ⟨a, ys, rfl, .inl ⟨.inl (.inl (hid_some h2).1), k _ H1 ρ1 g1 R1 (srv_rev (src_d h2 h3) h3.len)⟩⟩
    · rename_i ds m1 h
      cases hr
      refine rd_mk R E h fun v H1 ρ1 g1 R1 E1 r1 => ?_
      obtain ⟨a, ys, rfl, h2, h3⟩ := dt_tuple r1
      exact ⟨a, ys, rfl, .inr ⟨sqt_same hid_le h2, k _ H1 ρ1 g1 R1 (srv_revT h2 h3)⟩⟩
    · rename_i j m1 h
      split at hr
      · rename_i ds hj
        cases hr
        refine rd_mk R E h fun v H1 ρ1 g1 R1 E1 r1 => ?_
        obtain ⟨a, a1, rfl⟩ := r1
        obtain ⟨ys, y1, y2⟩ := R1.ok j a _ a1 hj
        exact ⟨a, ys, rfl, .inl ⟨.inl (.inl y1), k _ H1 ρ1 g1 R1 (srv_rev (src_l a1) y2.len)⟩⟩
      · cases hr
    · cases hr
theorem q_ienum {elts : List Expr} {kk : Nat} {tpos : Pos} (hg : Gl X "enumerate") (hm : X.mg "enumerate" = none) (ha : PE X a (rd X.K f)) (hs : starEach [a] X.env = [(false, eval a X.env)] := by rfl) : PI X (.Tuple elts kk tpos) (.Call (.Name "enumerate" p) [a] [] pos) (ri X.K (iEn f)) :=
  PI.imp (pi_enum hg hm (pa_cons ha pa_nil hs) hs) fun σ H Rr ⟨ρ, e, m, R, E, xs, C, m', hr, k⟩ => by
    unfold iEn at hr
    split at hr
    · rename_i ds m1 h
      cases hr
      refine rd_mk R E h fun v H1 ρ1 g1 R1 E1 r1 => ?_
      obtain ⟨a, ys, rfl, h2, h3⟩ := dt_list r1
      exact ⟨a, ys, rfl, .inl (.inl (hid_some h2).1), k _ H1 ρ1 g1 R1 (srv_enum (src_d h2 h3))⟩
    · rename_i j m1 h
      split at hr
      · rename_i ds hj
        cases hr
        refine rd_mk R E h fun v H1 ρ1 g1 R1 E1 r1 => ?_
        obtain ⟨a, a1, rfl⟩ := r1
        obtain ⟨ys, y1, y2⟩ := R1.ok j a _ a1 hj
        exact ⟨a, ys, rfl, .inl (.inl y1), k _ H1 ρ1 g1 R1 (srv_enum (src_l a1))⟩
      · cases hr
    · cases hr
end

/-! ### for -/
open Classical in
noncomputable def forL (g : MG) (b : MS) (C : Mem → Prop) : List EV → MS
  | [], e, m => if C m then some (.nx e, m) else none
  | x :: xs, e, m => if C m then (match g x e m with
    | some e1 => match b e1 m with
      | some (.nx e2, m2) => forL g b C xs e2 m2
      | some (.ct e2, m2) => forL g b C xs e2 m2
      | some (.bk e2, m2) => some (.nx e2, m2)
      | some (.rt r, m2) => some (.rt r, m2)
      | none => none
    | none => none) else none
noncomputable def sFor (it : MIt) (g : MG) (b : MS) : MS := fun e m => match it e m with
  | some (xs, C, m1) => forL g b C xs e m1
  | none => none
theorem q_for {X : Cx} {tg iter : Expr} {body : List Stmt} {it : MIt} {g : MG} {b : MS} {vs : List Nat} {pos : Pos} (hp : PassesOwn (model X.prog X.w) X.A X.env X.xe) (hc : X.calm = true) (hi : PI X tg iter (ri X.K it)) (hg : PG X tg (rg X.K vs g)) (hb : PSs X body (rs X.K b))
    (hs : ∀ x, foldedSetIterable iter X.env x = pure x := by intro _; rfl) : PS X (.For tg iter body [] pos) (rs X.K (sFor it g b)) := by
  refine PS.imp (ps_for hp hc hi hg hb hs) fun D σ H h => ?_
  obtain ⟨ρ, e, m, R, E, o, m', hr, k⟩ := h
  unfold sFor at hr
  split at hr
  · rename_i xs C m1 h1
    refine ⟨ρ, e, m, R, E, xs, C, m1, h1, fun J H1 ρ1 g1 R1 sv => ?_⟩
    have E1 := E.gr g1
    have k1 := k.gr g1
    refine ⟨fun i mm σ2 H2 => mm = xs.length - i ∧ i ≤ xs.length ∧ ∃ ρ2 e2 m2, Gr ρ1 m1 H1 ρ2 m2 H2 ∧ RelM X.K H2 ρ2 m2 ∧ EnvR X.K (hid ρ2 m2 H2) ρ2 σ2 e2 ∧ ∃ o m', forL g b C (xs.drop i) e2 m2 = some (o, m') ∧ Fin' X.K ρ2 m2 H2 D m' o,
      ⟨_, rfl, Nat.zero_le _, ρ1, e, m1, .refl, R1, E1, o, m', hr, k1⟩, ?_⟩
    rintro i mm σ2 H2 ⟨rfl, hle, ρ2, e2, m2, g2, R2, E2, o2, m3, hf, k2⟩
    by_cases hlt : i < xs.length
    · have hx : xs[i]? = some xs[i] := List.getElem?_eq_getElem hlt
      rw [List.drop_eq_getElem_cons hlt] at hf
      simp only [forL] at hf
      split at hf
      case isFalse => cases hf
      rename_i hC
      obtain ⟨sv1, sv2⟩ := sv ρ2 m2 H2 g2 R2 hC i
      obtain ⟨go, yl⟩ := sv2 _ hx
      cases q1 : g xs[i] e2 m2 with
      | none => rw [q1] at hf; cases hf
      | some e3 =>
        rw [q1] at hf
        dsimp only at hf
        refine .inr ⟨go, fun σ4 H4 => ∃ ρ4 e4 m4, Gr ρ1 m1 H1 ρ4 m4 H4 ∧ RelM X.K H4 ρ4 m4 ∧ EnvR X.K (hid ρ4 m4 H4) ρ4 σ4 e4 ∧ ∃ o m', forL g b C (xs.drop (i + 1)) e4 m4 = some (o, m') ∧ Fin' X.K ρ4 m4 H4 D m' o, fun σ4 H4 ⟨ρ4, e4, m4, z1, z2, z3, z4⟩ => ⟨xs.length - (i + 1), by omega, rfl, hlt, ρ4, e4, m4, z1, z2, z3, z4⟩, fun v H3 hy => ?_⟩
        obtain ⟨sm, hv⟩ := yl v H3 hy
        obtain ⟨R3, g3⟩ := R2.grow sm
        refine ⟨ρ2, e2, m2, _, R3, E2.gr g3, hv, e3, q1, fun σ5 _ E5 => ?_⟩
        cases q2 : b e3 m2 with
        | none => rw [q2] at hf; cases hf
        | some om =>
          obtain ⟨o5, m5⟩ := om
          rw [q2] at hf
          refine ⟨ρ2, e3, m2, R3, E5, o5, m5, q2, ?_⟩
          have k3 := k2.gr g3
          cases o5 with
          | nx e5 => exact fun σ6 H6 ρ6 g6 R6 E6 => ⟨ρ6, e5, m5, (g2.trans g3).trans g6, R6, E6, o2, m3, hf, k3.gr g6⟩
          | ct e5 => exact fun σ6 H6 ρ6 g6 R6 E6 => ⟨ρ6, e5, m5, (g2.trans g3).trans g6, R6, E6, o2, m3, hf, k3.gr g6⟩
          | bk e5 => cases hf; exact k3
          | rt r => cases hf; exact k3
    · have hn : xs.drop i = [] := List.drop_eq_nil_of_le (by omega)
      rw [hn] at hf
      simp only [forL] at hf
      split at hf
      case isFalse => cases hf
      rename_i hC
      cases hf
      obtain ⟨sv1, sv2⟩ := sv ρ2 m2 H2 g2 R2 hC i
      exact .inl ⟨sv1 (by omega), k2 σ2 H2 ρ2 .refl R2 E2⟩
  · cases hr

/-! ### [e for x in xs if c] -/
def cYes : MB := fun _ m => some (true, m)
def wipeE (e : Env') : List Nat → Env'
  | [] => e
  | v :: vs => (wipeE e vs).set v none
theorem wipeE_len {e : Env'} : ∀ {vs : List Nat}, (wipeE e vs).length = e.length
  | [] => rfl
  | v :: vs => by unfold wipeE; rw [List.length_set, wipeE_len]
theorem wipeE_get {e : Env'} : ∀ {vs : List Nat} {i : Nat} {x : EV}, (wipeE e vs)[i]? = some (some x) → e[i]? = some (some x) ∧ i ∉ vs
  | [], _, _, h => ⟨h, by simp⟩
  | v :: vs, i, x, h => by
    unfold wipeE at h
    rw [List.getElem?_set] at h
    split at h
    · split at h <;> cases h
    · rename_i hn
      obtain ⟨h1, h2⟩ := wipeE_get h
      exact ⟨h1, by rw [List.mem_cons]; exact fun z => z.elim (fun z => hn z.symm) h2⟩
theorem EnvR.wipe {K : Frg} {G : Hp} {ρ : List Addr} {σ : L2.St} {e : Env'} (E : EnvR K G ρ σ e) (vs : List Nat) : EnvR K G ρ (L2.wipe σ vs) (wipeE e vs) := by
  refine ⟨by rw [wipe_length, wipeE_len, E.len], fun i x hx => ?_⟩
  obtain ⟨h1, h2⟩ := wipeE_get hx
  obtain ⟨v, h3, h4⟩ := E.get i x h1
  refine ⟨v, ?_, h4⟩
  rw [wipe_get, if_neg (fun z => h2 z.1)]
  exact h3
open Classical in
noncomputable def lcL (g : MG) (c : MB) (f : ME) (n : Nat) (C : Mem → Prop) (e0 : Env') : List EV → Mem → Option Mem
  | [], m => if C m then some m else none
  | x :: xs, m => if C m then (match g x e0 m with
    | some e1 => match c e1 m with
      | some (true, m1) => match f e1 m1 with
        | some (.d y, m2) => match m2[n]? with
          | some (.lst acc) => if acc.length < sizeLine then lcL g c f n C e0 xs (m2.set n (.lst (acc ++ [y]))) else none
          | _ => none
        | _ => none
      | some (false, m1) => lcL g c f n C e0 xs m1
      | none => none
    | none => none) else none
/-- the list that is made stands behind what stood -/
noncomputable def eLc (it : MIt) (g : MG) (c : MB) (f : ME) (vs : List Nat) : ME := fun e m => match it e m with
  | some (xs, C, m1) => match lcL g c f m1.length C (wipeE e vs) xs (m1 ++ [.lst []]) with
    | some m2 => some (.l m1.length, m2)
    | none => none
  | none => none
end DL
set_option Elab.async false
set_option linter.all false
set_option maxRecDepth 100000
set_option maxHeartbeats 4000000
namespace DL
open PySem PySem.Spec PyProof.Rows L2

/-! ### a thing of the memory is written -/
theorem hid_write {ρ : List Addr} {m : Mem} {H : Hp} {i : Nat} {a : Addr} {o o' : MO} {u : HO} (h1 : ρ[i]? = some a) (h2 : m[i]? = some o) (ho : o ≠ .gone) (ho' : o' ≠ .gone) : hid ρ (m.set i o') (upd H a u) = hid ρ m H := by
  have hh : ∀ b, Hid ρ (m.set i o') b ↔ Hid ρ m b := by
    intro b
    have hi := (List.getElem?_eq_some_iff.mp h2).1
    constructor
    · rintro ⟨j, z, e1, e2, e3⟩
      rw [List.getElem?_set] at e2
      by_cases hij : i = j
      · subst hij
        exact ⟨i, o, e1, h2, ho⟩
      · rw [if_neg hij] at e2
        exact ⟨j, z, e1, e2, e3⟩
    · rintro ⟨j, z, e1, e2, e3⟩
      by_cases hij : i = j
      · subst hij
        exact ⟨i, o', e1, by rw [List.getElem?_set, if_pos rfl, if_pos hi], ho'⟩
      · exact ⟨j, z, e1, by rw [List.getElem?_set, if_neg hij]; exact e2, e3⟩
  have ha : Hid ρ m a := ⟨i, o, h1, h2, ho⟩
  funext b
  by_cases hb : Hid ρ m b
  · have hb' := (hh b).mpr hb
    unfold hid
    rw [if_pos hb, if_pos hb']
  · have hb' : ¬ Hid ρ (m.set i o') b := fun z => hb ((hh b).mp z)
    rw [hid_no hb, hid_no hb', upd_ne]
    intro e
    subst e
    exact hb ha
theorem RelM.write {K : Frg} {ρ : List Addr} {m : Mem} {H : Hp} (R : RelM K H ρ m) {i : Nat} {a : Addr} {o o' : MO} {u : HO} (h1 : ρ[i]? = some a) (h2 : m[i]? = some o) (ho : o ≠ .gone) (ho' : o' ≠ .gone)
    (ok : MOk K (hid ρ m H) ρ (upd H a u) a o') : RelM K (upd H a u) ρ (m.set i o') ∧ Gr ρ m H ρ (m.set i o') (upd H a u) := by
  have e := hid_write (H := H) (u := u) h1 h2 ho ho'
  refine ⟨⟨by rw [List.length_set]; exact R.len, R.nd, fun b hb => ?_, fun j b z e1 e2 => ?_⟩, List.prefix_refl _, by rw [e]; exact Same.refl _⟩
  · by_cases hba : b = a
    · rw [hba, upd_same]; exact fun z => nomatch z
    · rw [upd_ne hba]; exact R.al b hb
  · rw [e]
    rw [List.getElem?_set] at e2
    by_cases hij : i = j
    · subst hij
      rw [if_pos rfl] at e2
      split at e2
      · cases e2
        rw [h1] at e1
        cases e1
        exact ok
      · cases e2
    · rw [if_neg hij] at e2
      have nb : b ≠ a := by
        intro q
        subst q
        have hl := (List.getElem?_eq_some_iff.mp h1).1
        exact hij ((List.getElem?_inj hl R.nd).mp (h1.trans e1.symm))
      exact (R.ok j b z e1 e2).mono (Same.refl _) (List.prefix_refl _) (.inl (by rw [upd_ne nb]))
theorem RelM.lst {K : Frg} {ρ : List Addr} {m : Mem} {H : Hp} (R : RelM K H ρ m) {i : Nat} {a : Addr} {ds : List PyData} (h1 : ρ[i]? = some a) (h2 : m[i]? = some (.lst ds)) : ∃ xs, H a = some (.lst xs) ∧ DtA K (hid ρ m H) xs ds := R.ok i a _ h1 h2
theorem RelM.dct {K : Frg} {ρ : List Addr} {m : Mem} {H : Hp} (R : RelM K H ρ m) {i : Nat} {a : Addr} {kvs : List (Key × PyData)} (h1 : ρ[i]? = some a) (h2 : m[i]? = some (.dct kvs)) : ∃ ys, H a = some (.dK ys) ∧ KvR K (hid ρ m H) ys kvs := R.ok i a _ h1 h2

/-! ### comprehensions -/
theorem wipe_wipe {σ : L2.St} {vs : List Nat} : wipe (wipe σ vs) vs = wipe σ vs := by
  apply List.ext_getElem?
  intro j
  rw [wipe_get, wipe_get, wipe_length]
  by_cases hj : j ∈ vs ∧ j < σ.length
  · rw [if_pos hj, if_pos hj]
  · rw [if_neg hj, if_neg hj]
theorem PTs.imp {X : Cx} {e : List Expr} {t t' : TT} (h : PTs X e t) (w : ∀ σ H Q, t' σ H Q → t σ H Q) : PTs X e t' := ⟨fun pins s σ H Q I q => h.run pins s σ H Q I (w _ _ _ q)⟩
theorem q_tsnil {X : Cx} : PTs X [] (rb X.K cYes) := PTs.imp pts_nil fun σ H Q ⟨ρ, e, m, R, E, r, m', hr, k⟩ => by
  cases hr
  exact k H ρ .refl R
theorem q_tsone {X : Cx} {c : Expr} {f : MB} (h : PT X c (rb X.K f)) : PTs X [c] (rb X.K f) := pts_one h
theorem rd_lc {K : Frg} {it : MIt} {g : MG} {c : MB} {f : ME} {vs : List Nat} {σ : L2.St} {H : Hp} {Q : VK} (h : rd K (eLc it g c f vs) σ H Q) : tLc (ri K it) (rg K vs g) (rb K c) (rd K f) vs σ H Q := by
  obtain ⟨ρ, e, m, R, E, r, m', hr, k⟩ := h
  unfold eLc at hr
  split at hr
  case h_2 => cases hr
  rename_i xs C m1 h1
  split at hr
  case h_2 => cases hr
  rename_i mL hL
  cases hr
  refine ⟨ρ, e, m, R, E, xs, C, m1, h1, fun J H1 ρ1 g1 R1 sv D hD => ?_⟩
  have E1 := E.gr g1
  have nD : ∀ (ρ2 : List Addr), ρ1 ++ [D] <+: ρ2 → ρ2[m1.length]? = some D := fun ρ2 hp => by
    refine pre_get hp ?_
    rw [← R1.len, List.getElem?_append_right (Nat.le_refl _), Nat.sub_self]
    rfl
  obtain ⟨R2, g2⟩ := R1.push (o := .lst []) (u := .lst []) hD ⟨[], upd_same, .nil⟩
  refine ⟨fun i mm H2 => mm = xs.length - i ∧ i ≤ xs.length ∧ ∃ ρ2 m2, Gr (ρ1 ++ [D]) (m1 ++ [.lst []]) (upd H1 D (.lst [])) ρ2 m2 H2 ∧ RelM K H2 ρ2 m2 ∧ lcL g c f m1.length C (wipeE e vs) (xs.drop i) m2 = some m',
    ⟨_, rfl, Nat.zero_le _, _, _, .refl, R2, hL⟩, ?_⟩
  rintro i mm H2 ⟨rfl, hle, ρ2, m2, g3, R3, hf⟩
  have g13 := g2.trans g3
  by_cases hlt : i < xs.length
  · have hx : xs[i]? = some xs[i] := List.getElem?_eq_getElem hlt
    rw [List.drop_eq_getElem_cons hlt] at hf
    simp only [lcL] at hf
    split at hf
    case isFalse => cases hf
    rename_i hC
    obtain ⟨sv1, sv2⟩ := sv ρ2 m2 H2 g13 R3 hC i
    obtain ⟨go, yl⟩ := sv2 _ hx
    refine .inr ⟨go, fun H4 => ∃ ρ4 m4, Gr (ρ1 ++ [D]) (m1 ++ [.lst []]) (upd H1 D (.lst [])) ρ4 m4 H4 ∧ RelM K H4 ρ4 m4 ∧ lcL g c f m1.length C (wipeE e vs) (xs.drop (i + 1)) m4 = some m',
      fun H4 ⟨ρ4, m4, z⟩ => ⟨xs.length - (i + 1), by omega, rfl, hlt, ρ4, m4, z⟩, fun v H3 hy => ?_⟩
    obtain ⟨sm, hv⟩ := yl v H3 hy
    obtain ⟨R4, g4⟩ := R3.grow sm
    cases q1 : g xs[i] (wipeE e vs) m2 with
    | none => rw [q1] at hf; cases hf
    | some e3 =>
      rw [q1] at hf
      dsimp only at hf
      refine ⟨ρ2, wipeE e vs, m2, _, R4, (E1.gr (g13.trans g4)).wipe vs, hv, e3, q1, fun σ5 hw E5 => ⟨by rw [hw, wipe_wipe], ?_⟩⟩
      cases q2 : c e3 m2 with
      | none => rw [q2] at hf; cases hf
      | some bm =>
        obtain ⟨bb, m5⟩ := bm
        rw [q2] at hf
        refine rb_mk R4 E5 q2 fun H6 ρ6 g6 R6 E6 => ?_
        cases bb with
        | false =>
          rw [if_neg Bool.false_ne_true]
          exact ⟨ρ6, m5, (g3.trans g4).trans g6, R6, hf⟩
        | true =>
          rw [if_pos rfl]
          dsimp only at hf
          cases q3 : f e3 m5 with
          | none => rw [q3] at hf; cases hf
          | some ym =>
            obtain ⟨y, m7⟩ := ym
            rw [q3] at hf
            cases y with
            | l j => cases hf
            | f ds => cases hf
            | t xs => cases hf
            | o c fs => cases hf
            | d y =>
              dsimp only at hf
              split at hf
              case h_2 => cases hf
              rename_i acc ha
              split at hf
              case isFalse => cases hf
              rename_i hl
              refine rd_mk R6 E6 q3 fun w H7 ρ7 g7 R7 E7 r7 => ?_
              have gg := ((g3.trans g4).trans g6).trans g7
              have hD7 := nD ρ7 gg.pre
              obtain ⟨ws, hw1, hw2⟩ := R7.lst hD7 ha
              refine ⟨ws, hw1, by rw [hw2.len]; exact hl, ?_⟩
              obtain ⟨R8, g8⟩ := R7.write (o' := .lst (acc ++ [y])) (u := .lst (ws ++ [w])) hD7 ha (fun z => nomatch z) (fun z => nomatch z) ⟨_, upd_same, hw2.app (.cons r7 .nil)⟩
              exact ⟨ρ7, _, gg.trans g8, R8, hf⟩
  · have hn : xs.drop i = [] := List.drop_eq_nil_of_le (by omega)
    rw [hn] at hf
    simp only [lcL] at hf
    split at hf
    case isFalse => cases hf
    rename_i hC
    cases hf
    obtain ⟨sv1, sv2⟩ := sv ρ2 _ H2 g13 R3 hC i
    exact .inl ⟨sv1 (by omega), k _ H2 ρ2 (g1.trans g13) R3 ⟨D, nD ρ2 g3.pre, rfl⟩⟩
section
variable {X : Cx} {elt tg iter : Expr} {ifs : List Expr} {scope : Scope} {own : List (Str × Nat)} {pos spos py : Pos} {it : MIt} {g : MG} {c : MB} {f : ME} {i : Nat} {y : Str}
theorem q_lc (hc : X.calm = true) (hN : X.N.Nodup) (hi : PI X tg iter (ri X.K it)) (ok : BlkOk X.N X.env.scope scope own)
    (hg : ∀ (s : Shared) (H : Hp) (C : Addr) (cl : List (Str × Addr)) (fp : List Addr), PG (X.blk s H scope (compEnvC scope cl C X.env) fp) tg (rg X.K (own.map (·.2)) g))
    (ht : ∀ (s : Shared) (H : Hp) (C : Addr) (cl : List (Str × Addr)) (fp : List Addr), PTs (X.blk s H scope (compEnvC scope cl C X.env) fp) ifs (rb X.K c))
    (he : ∀ (s : Shared) (H : Hp) (C : Addr) (cl : List (Str × Addr)) (fp : List Addr), PE (X.blk s H scope (compEnvC scope cl C X.env) fp) elt (rd X.K f)) (hs : ∀ x, foldedSetIterable iter X.env x = pure x := by intro _; rfl) :
    PE X (.ListComp elt [⟨tg, iter, ifs, 0⟩] scope pos) (rd X.K (eLc it g c f (own.map (·.2)))) :=
  PE.imp (pe_lc hc hN hi ok hg ht he hs) fun _ _ _ h => rd_lc h
theorem q_setLc (hc : X.calm = true) (hN : X.N.Nodup) (hy : X.N[i]? = some y) (hyl : X.env.scope.names.lookup y = some .local) (hsw : swapsWith (.ListComp elt [⟨tg, iter, ifs, 0⟩] scope pos) (some (.Name y py)) spos.line X.env = pure true) (hi : PI X tg iter (ri X.K it)) (ok : BlkOk X.N X.env.scope scope own)
    (hg : ∀ (s : Shared) (H : Hp) (C : Addr) (cl : List (Str × Addr)) (fp : List Addr), PG (X.blk s H scope (compEnvC scope cl C X.env) fp) tg (rg X.K (own.map (·.2)) g))
    (ht : ∀ (s : Shared) (H : Hp) (C : Addr) (cl : List (Str × Addr)) (fp : List Addr), PTs (X.blk s H scope (compEnvC scope cl C X.env) fp) ifs (rb X.K c))
    (he : ∀ (s : Shared) (H : Hp) (C : Addr) (cl : List (Str × Addr)) (fp : List Addr), PE (X.blk s H scope (compEnvC scope cl C X.env) fp) elt (rd X.K f)) (hs : ∀ x, foldedSetIterable iter X.env x = pure x := by intro _; rfl) :
    PS X (.Assign [.Name y py] (.ListComp elt [⟨tg, iter, ifs, 0⟩] scope pos) spos) (rs X.K (sSet i (eLc it g c f (own.map (·.2))))) :=
  PS.imp (ps_setLc hc hN hy hyl hsw hi ok hg ht he hs) fun D σ H ⟨ρ, e, m, R, E, o, m', hr, k⟩ => by
    unfold sSet at hr
    split at hr
    · rename_i v m1 h
      cases hr
      refine rd_lc ?_
      exact rd_mk R E h fun v1 H1 ρ1 g1 R1 E1 r1 => k _ H1 ρ1 g1 R1 (E1.set i r1)
    · cases hr
end
mutual
theorem evr_low {K : Frg} {G G0 : Hp} {ρ ρ' : List Addr} (p : ρ <+: ρ') : ∀ (x : EV) {v v0 : V}, EvR K G ρ' v x → EvR K G0 ρ v0 x → EvR K G ρ v x
  | .d x, _, _, h, _ => by rw [EvR] at h ⊢; exact h
  | .f ds, _, _, h, _ => by rw [EvR] at h ⊢; exact h
  | .o c fs, _, _, h, _ => by rw [EvR] at h ⊢; exact h
  | .l i, _, _, h, h0 => by
    rw [EvR] at h h0 ⊢
    obtain ⟨a, h1, h2⟩ := h
    obtain ⟨b, b1, b2⟩ := h0
    rw [pre_get p b1] at h1
    cases h1
    exact ⟨_, b1, h2⟩
  | .t xs, _, _, h, h0 => by
    rw [EvR] at h h0 ⊢
    obtain ⟨a, vs, h1, h2, h3⟩ := h
    obtain ⟨b, ws, b1, b2, b3⟩ := h0
    exact ⟨a, vs, h1, h2, evall_low p xs h3 b3⟩
theorem evall_low {K : Frg} {G G0 : Hp} {ρ ρ' : List Addr} (p : ρ <+: ρ') : ∀ (xs : List EV) {vs vs0 : List V}, EvAll K G ρ' vs xs → EvAll K G0 ρ vs0 xs → EvAll K G ρ vs xs
  | [], _, _, h, _ => by rw [EvAll] at h ⊢; exact h
  | x :: xs, _, _, h, h0 => by
    rw [EvAll] at h h0 ⊢
    obtain ⟨w, ws, h1, h2, h3⟩ := h
    obtain ⟨w0, ws0, b1, b2, b3⟩ := h0
    exact ⟨w, ws, h1, evr_low p x h2 b2, evall_low p xs h3 b3⟩
end
/-- a place of the memory that a statement has just made, held as data: the statement's own value is frozen -/
theorem rs_frz {K : Frg} {f : ME} {i : Nat} {D : Ends} {σ : L2.St} {H : Hp} (h : rs K (sSet i (eFrz f)) D σ H) : rs K (sSet i f) D σ H := by
  obtain ⟨ρ, e, m, R, E, o, m', hr, k⟩ := h
  unfold sSet at hr
  split at hr
  case h_2 => cases hr
  rename_i v m1 h
  cases hr
  unfold eFrz at h
  split at h
  · rename_i x m2 h2
    cases h
    exact ⟨ρ, e, m, R, E, _, _, by unfold sSet; rw [h2], k⟩
  · rename_i j m2 h2
    split at h
    case isFalse => cases h
    rename_i hj
    obtain ⟨rfl, hl⟩ := hj
    split at h
    case h_2 => cases h
    rename_i x hx
    cases h
    refine ⟨ρ, e, m, R, E, .nx (e.set i (some (.l m.length))), m2, by unfold sSet; rw [h2], fun σ' H' ρ' g R' E' => ?_⟩
    have e1 : ρ'.take m.length = ρ := by rw [← R.len]; exact take_pre g.pre
    have R2 := R'.take m.length
    have s2 : Same (hid ρ' m2 H') (hid (ρ'.take m.length) (m2.take m.length) H') := hid_take _
    rw [e1] at R2 s2
    refine k σ' H' ρ ⟨List.prefix_refl _, g.same.trans s2⟩ R2 ⟨by rw [List.length_set, E'.len, List.length_set], fun t y hy => ?_⟩
    rw [List.getElem?_set] at hy
    by_cases hit : i = t
    · subst hit
      rw [if_pos rfl] at hy
      split at hy
      · rename_i hlt
        cases hy
        obtain ⟨v, v1, v2⟩ := E'.get i (.l m.length) (by rw [List.getElem?_set, if_pos rfl, if_pos hlt])
        refine ⟨v, v1, ?_⟩
        have := frz_dt R' v2 hx
        rw [e1] at this
        exact this
      · cases hy
    · rw [if_neg hit] at hy
      obtain ⟨v, v1, v2⟩ := E'.get t y (by rw [List.getElem?_set, if_neg hit]; exact hy)
      have : EvR K (hid ρ (m2.take m.length) H') ρ' v y := EvR.mono s2 (List.prefix_refl _) v2
      refine ⟨v, v1, ?_⟩
      obtain ⟨w0, _, hw0⟩ := E.get t y hy
      exact evr_low g.pre y this hw0
  · cases h
theorem q_sfrz {X : Cx} {st : Stmt} {f : ME} {i : Nat} (h : PS X st (rs X.K (sSet i f))) : PS X st (rs X.K (sSet i (eFrz f))) := PS.imp h fun D σ H q => rs_frz q
end DL
set_option Elab.async false
set_option linter.all false
set_option maxRecDepth 100000
set_option maxHeartbeats 4000000
namespace DL
open PySem PySem.Spec PyProof.Rows L2

/-! ### append -/
def eApp (f g : ME) : ME := fun e m => match f e m with
  | some (.l i, m1) => match m1[i]? with
    | some (.lst _) => match g e m1 with
      | some (.d x, m2) => match m2[i]? with
        | some (.lst ds) => if ds.length < sizeLine then some (.d .none, m2.set i (.lst (ds ++ [x]))) else none
        | _ => none
      | _ => none
    | _ => none
  | _ => none
section
variable {X : Cx} {o a : Expr} {f g : ME} {apos cpos : Pos}
theorem q_app (ho : PE X o (rd X.K f)) (ha : PE X a (rd X.K g)) (hb : attributeBase o "append" X.env (eval o X.env) = eval o X.env := by rfl)
    (hfew : ((((backTo cpos (starEach (a :: []) X.env)).all fun x => !x.1) && (backToKw cpos (keywordEach [] X.env)).all fun x => x.1.isSome) && decide (((a :: []).length + ([] : List Keyword).length + if ([] : List Keyword).isEmpty = true then 0 else 1) < 30)) = true := by rfl)
    (hl : (apos.endLine == cpos.line) = true := by rfl) (h1 : starEach [a] X.env = (false, eval a X.env) :: starEach [] X.env := by rfl) (h2 : ((backTo cpos (starEach [] X.env)).any fun x => x.1) = false := by rfl) :
    PE X (.Call (.Attribute o "append" apos) [a] [] cpos) (rd X.K (eApp f g)) :=
  PE.imp (pe_bm PySem.F.plainAttrs_list PySem.F.slot_list_append PySem.F.type_list_append mt_append ho (pa_cons ha pa_nil h1) hb hfew hl h1 h2) fun σ H Q ⟨ρ, e, m, R, E, r, m', hr, k⟩ => by
    unfold eApp at hr
    split at hr
    case h_2 => cases hr
    rename_i i m1 q1
    split at hr
    case h_2 => cases hr
    rename_i ds0 q0
    split at hr
    case h_2 => cases hr
    rename_i x m2 q2
    split at hr
    case h_2 => cases hr
    rename_i ds q3
    split at hr
    case isFalse => cases hr
    rename_i hl
    cases hr
    refine rd_mk R E q1 fun v1 H1 ρ1 g1 R1 E1 r1 => ?_
    obtain ⟨b, b1, rfl⟩ := r1
    obtain ⟨xs0, x1, _⟩ := R1.lst b1 q0
    refine ⟨.inl ⟨rfl, xs0, .inl (.inl x1)⟩, ?_⟩
    refine rd_mk R1 E1 q2 fun v2 H2 ρ2 g2 R2 E2 r2 => ?_
    have b2 := pre_get g2.pre b1
    obtain ⟨xs, y1, y2⟩ := R2.lst b2 q3
    obtain ⟨R3, g3⟩ := R2.write (o' := .lst (ds ++ [x])) (u := .lst (xs ++ [v2])) b2 q3 (fun z => nomatch z) (fun z => nomatch z) ⟨_, upd_same, y2.app (.cons r2 .nil)⟩
    exact ⟨b, xs, v2, rfl, rfl, y1, by rw [y2.len]; exact hl, k _ _ ρ2 ((g1.trans g2).trans g3) R3 Dt.non⟩
end

/-! ### a dict of the memory: d[k], d[k] = v, by a written key -/
def getP (kvs : List (Key × PyData)) (k : Key) : Option PyData := (kvs.find? fun p => decide (p.1 = k)).map (·.2)
def putP (kvs : List (Key × PyData)) (k : Key) (v : PyData) : List (Key × PyData) :=
  if (kvs.any fun p => decide (p.1 = k)) = true then kvs.map fun p => if p.1 = k then (p.1, v) else p else kvs ++ [(k, v)]
def keyOf : PyData → Option Key
  | .int i => some (.inl i)
  | .str s => some (.inr s)
  | _ => none
theorem keyOf_v {K : Frg} {G : Hp} {v : V} {d : PyData} {k : Key} (h : Dt K G v d) (e : keyOf d = some k) : v = kV k := by
  cases h <;> first | (cases e; rfl) | cases e
theorem kv_get {K : Frg} {G : Hp} {k : Key} {d : PyData} : ∀ {ys : List (Key × V)} {kvs : List (Key × PyData)}, KvR K G ys kvs → getP kvs k = some d → ∃ v, valV ys k = some v ∧ Dt K G v d
  | _, _, .nil, e => by simp [getP] at e
  | (k1, v) :: ys, (k2, d2) :: kvs, .cons h q, e => by
    obtain ⟨h1, h2⟩ := h
    have h1' : k1 = k2 := h1
    subst h1'
    unfold getP at e
    unfold valV
    rw [List.find?_cons] at e ⊢
    by_cases hk : k1 = k
    · simp only [hk, decide_true] at e ⊢
      cases e
      exact ⟨v, rfl, h2⟩
    · simp only [hk, decide_false] at e ⊢
      exact kv_get q e
theorem kv_any {K : Frg} {G : Hp} {k : Key} : ∀ {ys : List (Key × V)} {kvs : List (Key × PyData)}, KvR K G ys kvs → (ys.any fun p => decide (p.1 = k)) = (kvs.any fun p => decide (p.1 = k))
  | _, _, .nil => rfl
  | (k1, v) :: ys, (k2, d2) :: kvs, .cons h q => by
    obtain ⟨h1, h2⟩ := h
    have h1' : k1 = k2 := h1
    subst h1'
    rw [List.any_cons, List.any_cons, kv_any q]
theorem kv_map {K : Frg} {G : Hp} {k : Key} {w : V} {d : PyData} (hd : Dt K G w d) : ∀ {ys : List (Key × V)} {kvs : List (Key × PyData)}, KvR K G ys kvs → KvR K G (ys.map fun p => if p.1 = k then (p.1, w) else p) (kvs.map fun p => if p.1 = k then (p.1, d) else p)
  | _, _, .nil => .nil
  | (k1, v) :: ys, (k2, d2) :: kvs, .cons h q => by
    obtain ⟨h1, h2⟩ := h
    have h1' : k1 = k2 := h1
    subst h1'
    rw [List.map_cons, List.map_cons]
    refine .cons ?_ (kv_map hd q)
    by_cases hk : k1 = k
    · simp only [hk, if_true]; exact ⟨trivial, hd⟩
    · simp only [hk, if_false]; exact ⟨trivial, h2⟩
theorem KvR.app {K : Frg} {G : Hp} : ∀ {ys zs : List (Key × V)} {kvs lvs : List (Key × PyData)}, KvR K G ys kvs → KvR K G zs lvs → KvR K G (ys ++ zs) (kvs ++ lvs)
  | _, _, _, _, .nil, r => r
  | _, _, _, _, .cons h q, r => .cons h (KvR.app q r)
theorem KvR.len {K : Frg} {G : Hp} : ∀ {ys : List (Key × V)} {kvs : List (Key × PyData)}, KvR K G ys kvs → ys.length = kvs.length
  | _, _, .nil => rfl
  | _, _, .cons _ q => by rw [List.length_cons, List.length_cons, KvR.len q]
theorem kv_put {K : Frg} {G : Hp} {k : Key} {w : V} {d : PyData} (hd : Dt K G w d) {ys : List (Key × V)} {kvs : List (Key × PyData)} (h : KvR K G ys kvs) : KvR K G (putK ys k w) (putP kvs k d) := by
  unfold putK putP
  rw [kv_any h]
  split
  · exact kv_map hd h
  · exact h.app (.cons ⟨rfl, hd⟩ .nil)
def eGet (f g : ME) : ME := fun e m => match f e m with
  | some (.l i, m1) => match g e m1 with
    | some (.d x, m2) => match m2[i]? with
      | some (.dct kvs) => match keyOf x with
        | some k => match getP kvs k with
          | some d => some (.d d, m2)
          | none => none
        | none => none
      | _ => none
    | _ => none
  | _ => none
def sPut (fv fo fi : ME) : MS := fun e m => match fv e m with
  | some (.d x, m1) => match fo e m1 with
    | some (.l i, m2) => match fi e m2 with
      | some (.d y, m3) => match m3[i]? with
        | some (.dct kvs) => match keyOf y with
          | some k => if kvs.length < sizeLine then some (.nx e, m3.set i (.dct (putP kvs k x))) else none
          | none => none
        | _ => none
      | _ => none
    | _ => none
  | _ => none
section
variable {X : Cx} {o a val : Expr} {f g fv : ME} {pos pos' : Pos}
theorem q_get (hu : X.A.units + 1 < cLine) (ho : PE X o (rd X.K f)) (ha : PE X a (rd X.K g)) (hs : NoSl a := by intro _ _; rfl) : PE X (.Subscript o a pos) (rd X.K (eGet f g)) :=
  PE.imp (pe_dget hu ho ha hs) fun σ H Q ⟨ρ, e, m, R, E, r, m', hr, k⟩ => by
    unfold eGet at hr
    split at hr
    case h_2 => cases hr
    rename_i i m1 q1
    split at hr
    case h_2 => cases hr
    rename_i x m2 q2
    split at hr
    case h_2 => cases hr
    rename_i kvs q3
    split at hr
    case h_2 => cases hr
    rename_i kk q4
    split at hr
    case h_2 => cases hr
    rename_i d q5
    cases hr
    refine rd_mk R E q1 fun v1 H1 ρ1 g1 R1 E1 r1 => ?_
    refine rd_mk R1 E1 q2 fun v2 H2 ρ2 g2 R2 E2 r2 => ?_
    obtain ⟨b, b1, rfl⟩ := r1
    obtain ⟨ys, y1, y2⟩ := R2.dct (pre_get g2.pre b1) q3
    obtain ⟨w, w1, w2⟩ := kv_get y2 q5
    exact ⟨b, w, rfl, .inl ⟨ys, kk, .inl y1, keyOf_v r2 q4, w1.symm⟩, k _ H2 ρ2 (g1.trans g2) R2 w2⟩
theorem q_put (hu : X.A.units + 1 < cLine) (ho : PE X o (rd X.K f)) (ha : PE X a (rd X.K g)) (hv : PE X val (rd X.K fv)) (hs : swapsWith val (some (.Subscript o a pos')) pos.line X.env = pure false := by rfl) :
    PS X (.Assign [.Subscript o a pos'] val pos) (rs X.K (sPut fv f g)) :=
  PS.imp (ps_dput hu ho ha hv hs) fun D σ H ⟨ρ, e, m, R, E, oo, m', hr, k⟩ => by
    unfold sPut at hr
    split at hr
    case h_2 => cases hr
    rename_i x m1 q1
    split at hr
    case h_2 => cases hr
    rename_i i m2 q2
    split at hr
    case h_2 => cases hr
    rename_i y m3 q3
    split at hr
    case h_2 => cases hr
    rename_i kvs q4
    split at hr
    case h_2 => cases hr
    rename_i kk q5
    split at hr
    case isFalse => cases hr
    rename_i hl
    cases hr
    refine rd_mk R E q1 fun v1 H1 ρ1 g1 R1 E1 r1 => ?_
    refine rd_mk R1 E1 q2 fun v2 H2 ρ2 g2 R2 E2 r2 => ?_
    refine rd_mk R2 E2 q3 fun v3 H3 ρ3 g3 R3 E3 r3 => ?_
    obtain ⟨b, b1, rfl⟩ := r2
    have b3 := pre_get g3.pre b1
    obtain ⟨ys, y1, y2⟩ := R3.dct b3 q4
    have r1' := (r1.gr g2).gr g3
    obtain ⟨R4, g4⟩ := R3.write (o' := .dct (putP kvs kk x)) (u := .dK (putK ys kk v1)) b3 q4 (fun z => nomatch z) (fun z => nomatch z) ⟨_, upd_same, kv_put r1' y2⟩
    exact ⟨b, _, rfl, .inl ⟨ys, kk, y1, keyOf_v r3 q5, by rw [y2.len]; exact hl, rfl⟩, k σ _ ρ3 (((g1.trans g2).trans g3).trans g4) R4 (E3.gr g4)⟩
end
/-! ### xs[i] = v of a list of the memory -/
def sSetIx (fv fo fi : ME) : MS := fun e m => match fv e m with
  | some (.d x, m1) => match fo e m1 with
    | some (.l i, m2) => match fi e m2 with
      | some (.d (.int y), m3) => match m3[i]? with
        | some (.lst ds) => match ixN ds.length y with
          | some j => some (.nx e, m3.set i (.lst (ds.set j x)))
          | none => none
        | _ => none
      | _ => none
    | _ => none
  | _ => none
section
variable {X : Cx} {o a val : Expr} {f g fv : ME} {pos pos' : Pos}
theorem q_setIx (ho : PE X o (rd X.K f)) (ha : PE X a (rd X.K g)) (hv : PE X val (rd X.K fv))
    (hs : swapsWithSole [.Subscript o a pos'] val pos.line X.env = pure false := by rfl) (hw : swappedStores [.Subscript o a pos'] val X.env = pure none := by rfl) (h1 : (assignEach [.Subscript o a pos'] X.env).map (·.2) = [assign (.Subscript o a pos') X.env] := by rfl)
    (hg : ∀ {to ti : TE} {t : TSet}, PE X o to → PE X a ti → PSet X t → PG X (.Subscript o a pos') (gSub to ti t) := by intro _ _ _ h1 h2 h3; exact pg_sub h1 h2 h3) :
    PS X (.Assign [.Subscript o a pos'] val pos) (rs X.K (sSetIx fv f g)) :=
  PS.imp (ps_asg hv (hg ho ha set_list) hs hw h1) fun D σ H ⟨ρ, e, m, R, E, oo, m', hr, k⟩ => by
    unfold sSetIx at hr
    split at hr
    case h_2 => cases hr
    rename_i x m1 q1
    split at hr
    case h_2 => cases hr
    rename_i i m2 q2
    split at hr
    case h_2 => cases hr
    rename_i y m3 q3
    split at hr
    case h_2 => cases hr
    rename_i ds q4
    split at hr
    case h_2 => cases hr
    rename_i j q5
    cases hr
    refine rd_mk R E q1 fun v1 H1 ρ1 g1 R1 E1 r1 => ?_
    refine rd_mk R1 E1 q2 fun v2 H2 ρ2 g2 R2 E2 r2 => ?_
    refine rd_mk R2 E2 q3 fun v3 H3 ρ3 g3 R3 E3 r3 => ?_
    obtain ⟨b, b1, rfl⟩ := r2
    cases r3
    have b3 := pre_get g3.pre b1
    obtain ⟨ys, y1, y2⟩ := R3.lst b3 q4
    have r1' := (r1.gr g2).gr g3
    obtain ⟨R4, g4⟩ := R3.write (o' := .lst (ds.set j x)) (u := .lst (ys.set j v1)) b3 q4 (fun z => nomatch z) (fun z => nomatch z) ⟨_, upd_same, y2.set r1' j⟩
    exact ⟨b, ys, y, j, rfl, rfl, y1, by rw [y2.len]; exact q5, k σ _ ρ3 (((g1.trans g2).trans g3).trans g4) R4 (E3.gr g4)⟩
end
/-! ### a new list as a place of the memory: x = [a, ..] -/
def eLstL (f : MA) : ME := fun e m => match f e m with
  | some (xs, m1) => match asD xs with
    | some ds => if ds.length ≤ sizeLine then some (.l m1.length, m1 ++ [.lst ds]) else none
    | none => none
  | none => none
section
variable {X : Cx} {pos : Pos} {es : List Expr} {fa : MA}
theorem q_lstL (h : PA X es (ra X.K fa)) : PE X (.List es pos) (rd X.K (eLstL fa)) := PE.imp (pe_lst h) fun σ H Q ⟨ρ, e, m, R, E, r, m', hr, k⟩ => by
  unfold eLstL at hr
  split at hr
  case h_2 => cases hr
  rename_i xs m1 h1
  split at hr
  case h_2 => cases hr
  rename_i ds h2
  split at hr
  case isFalse => cases hr
  rename_i hl
  cases hr
  refine ra_mk R E h1 fun vs H1 ρ1 g1 R1 E1 q => ?_
  have hd := asD_dta q h2
  refine ⟨by rw [hd.len]; exact hl, fun p hp => ?_⟩
  have hs := hid_app (o := .lst ds) (u := .lst vs) R1.len hp
  obtain ⟨R2, g2⟩ := R1.push (o := .lst ds) (u := .lst vs) hp ⟨vs, upd_same, DtA.mono hs _ hd⟩
  refine k _ _ (ρ1 ++ [p]) (g1.trans g2) R2 ⟨p, ?_, rfl⟩
  rw [← R1.len, List.getElem?_append_right (Nat.le_refl _), Nat.sub_self]
  rfl
end
/-! ### {k: v, ..} as a place of the memory, the keys written texts -/
def mPairs : List (Str × ME) → Env' → Mem → Option (List (Key × PyData) × Mem)
  | [], _, m => some ([], m)
  | (k, f) :: r, e, m => match f e m with
    | some (.d x, m1) => match mPairs r e m1 with
      | some (kvs, m2) => some ((.inr k, x) :: kvs, m2)
      | none => none
    | _ => none
def eDct (ps : List (Str × ME)) : ME := fun e m => match mPairs ps e (m ++ [.dct []]) with
  | some (kvs, m1) => match m1[m.length]? with
    | some (.dct []) => if kvs.length ≤ 15 then some (.l m.length, m1.set m.length (.dct (kvs.foldl (fun acc p => putP acc p.1 p.2) []))) else none
    | _ => none
  | none => none
def trsOf (K : Frg) (ps : List (Str × ME)) : List (TE × TE) := ps.map fun p => (tC (.str p.1), rd K p.2)
theorem pairs_ok {K : Frg} {e : Env'} {σ : L2.St} : ∀ {ps : List (Str × ME)} {ρ : List Addr} {m m' : Mem} {H : Hp} {kvs : List (Key × PyData)} {Q : List (V × V) → Hp → Prop}, RelM K H ρ m → EnvR K (hid ρ m H) ρ σ e → mPairs ps e m = some (kvs, m') →
    (∀ ys H' ρ', Gr ρ m H ρ' m' H' → RelM K H' ρ' m' → KvR K (hid ρ' m' H') ys kvs → Q (ys.map fun kv => (kV kv.1, kv.2)) H') → tPairs (trsOf K ps) σ H Q
  | [], ρ, m, m', H, kvs, Q, R, E, h, k => by
    cases h
    exact k [] H ρ .refl R .nil
  | (x, f) :: ps, ρ, m, m', H, kvs, Q, R, E, h, k => by
    simp only [mPairs] at h
    split at h
    case h_2 => cases h
    rename_i d m1 h1
    split at h
    case h_2 => cases h
    rename_i lvs m2 h2
    cases h
    show rd K f σ H fun y H1 => tPairs (trsOf K ps) σ H1 fun l H2 => Q ((V.str x, y) :: l) H2
    refine rd_mk R E h1 fun v1 H1 ρ1 g1 R1 E1 r1 => ?_
    refine pairs_ok R1 E1 h2 fun ys H2 ρ2 g2 R2 q2 => ?_
    exact k ((.inr x, v1) :: ys) H2 ρ2 (g1.trans g2) R2 (.cons ⟨rfl, r1.gr g2⟩ q2)
theorem kv_fold {K : Frg} {G : Hp} : ∀ {ys : List (Key × V)} {kvs : List (Key × PyData)} {a : List (Key × V)} {b : List (Key × PyData)}, KvR K G ys kvs → KvR K G a b → KvR K G (ys.foldl (fun acc p => putK acc p.1 p.2) a) (kvs.foldl (fun acc p => putP acc p.1 p.2) b)
  | _, _, _, _, .nil, h => h
  | (k1, v) :: ys, (k2, d2) :: kvs, _, _, .cons h q, hab => by
    obtain ⟨h1, h2⟩ := h
    have h1' : k1 = k2 := h1
    subst h1'
    rw [List.foldl_cons, List.foldl_cons]
    exact kv_fold (ys := ys) (kvs := kvs) q (kv_put h2 hab)
theorem q_dct {X : Cx} {pos : Pos} {keys : List (Option Expr)} {values : List Expr} {ps : List (Str × ME)} (h : PPs X pos keys values (trsOf X.K ps)) (hall : keys.all (·.isSome) = true := by rfl) (hl : keys.length = values.length := by rfl) (h0 : keys ≠ [] := by exact fun z => nomatch z)
    (h15 : keys.length ≤ 15 := by decide) : PE X (.Dict keys values pos) (rd X.K (eDct ps)) :=
  PE.imp (pe_disp h hall hl h0 h15) fun σ H Q ⟨ρ, e, m, R, E, r, m', hr, k⟩ => by
    unfold eDct at hr
    split at hr
    case h_2 => cases hr
    rename_i kvs m1 h1
    split at hr
    case h_2 => cases hr
    rename_i hc1
    split at hr
    case isFalse => cases hr
    rename_i hc2
    have hc := And.intro hc1 hc2
    cases hr
    intro p hp
    obtain ⟨R1, g1⟩ := R.push (o := .dct []) (u := .dK []) hp ⟨[], upd_same, .nil⟩
    refine pairs_ok R1 (E.gr g1) h1 fun ys H2 ρ2 g2 R2 q2 => ?_
    have hp2 : ρ2[m.length]? = some p := by
      refine pre_get g2.pre ?_
      rw [← R.len, List.getElem?_append_right (Nat.le_refl _), Nat.sub_self]
      rfl
    obtain ⟨zs, z1, z2⟩ := R2.dct hp2 hc.1
    cases z2
    refine ⟨z1, ys, rfl, by rw [q2.len]; exact hc.2, ?_⟩
    obtain ⟨R3, g3⟩ := R2.write (o' := .dct (kvs.foldl (fun acc p => putP acc p.1 p.2) [])) (u := .dK (mergeK [] ys)) hp2 hc.1 (fun z => nomatch z) (fun z => nomatch z) ⟨_, upd_same, kv_fold q2 .nil⟩
    exact k _ _ ρ2 ((g1.trans g2).trans g3) R3 ⟨p, hp2, rfl⟩
/-! ### {} -/
def eDct0 : ME := fun _ m => some (.d (.dict []), m)
theorem q_dct0 {X : Cx} {pos : Pos} : PE X (.Dict [] [] pos) (rd X.K eDct0) := PE.imp pe_dnewK fun σ H Q ⟨ρ, e, m, R, E, r, m', hr, k⟩ => by
  cases hr
  intro p hp
  obtain ⟨R', g, e1⟩ := R.new (o := .dK []) hp
  exact k _ _ ρ g R' (Dt.dic e1 .nil)
/-! ### join, global constants, n += e -/
def joinD : PyData → PyData → Option PyData
  | .str a, .list xs => match asS xs with
    | some ys => if (ys.map (·.length)).sum + ys.length * a.length ≤ 16777216 then some (.str (Txt.join a ys)) else none
    | none => none
  | _, _ => none
section
variable {X : Cx} {o a : Expr} {f g : ME} {apos pos : Pos}
theorem q_join (ho : PE X o (rd X.K f)) (ha : PE X a (rd X.K g)) (hs : starEach [a] X.env = [(false, eval a X.env)] := by rfl) (hb : attributeBase o "join" X.env (eval o X.env) = eval o X.env := by rfl) (hl : (apos.endLine == pos.line) = true := by rfl) :
    PE X (.Call (.Attribute o "join" apos) [a] [] pos) (rd X.K (eBin joinD f g)) :=
  PE.imp (pe_join ho ha hs hb hl) fun σ H Q ⟨ρ, e, m, R, E, r, m', hr, k⟩ => by
    obtain ⟨x, m1, y, dx, dy, z, q1, q2, q3, q4, q5, rfl⟩ := eBin_some hr
    unfold joinD at q5
    split at q5
    case h_2 => cases q5
    rename_i sa xs
    split at q5
    case h_2 => cases q5
    rename_i ys hy
    split at q5
    case isFalse => cases q5
    rename_i hz
    cases q5
    refine rd_mk R E q1 fun v1 H1 ρ1 g1 R1 E1 r1 => ?_
    have hx : v1 = .str sa := by
      cases x with
      | d x => cases q3; cases r1; rfl
      | f ds => cases q3
      | t xs => cases q3
      | o c fs => cases q3
      | l i =>
        simp only [vw] at q3
        split at q3 <;> cases q3
    subst hx
    refine ⟨⟨_, rfl⟩, ?_⟩
    refine rd_mk R1 E1 q2 fun v2 H2 ρ2 g2 R2 E2 r2 => ?_
    obtain ⟨b, ws, rfl, w1, w2⟩ := (vw_of R2 r2 q4).list hid_le
    cases asS_v w2 hy
    exact ⟨sa, b, ys, rfl, rfl, .inl (.inl (.inl w1)), hz, k _ H2 ρ2 (g1.trans g2) R2 (Dt.str _)⟩
theorem q_glob {x : Str} {v : V} {u : Value} {d : PyData} (hg : Gl X x) (hm : X.mg x = some u) (r : RelV v u) (hd : ∀ G, Dt X.K G v d) (hdb : (x == ("__debug__" : Str)) = false := by decide) : PE X (.Name x pos) (rd X.K (eC d)) := q_c (pe_glob hg hm r hdb) hd
end
def sAug (i : Nat) (p : Int → Int → Int) (f : ME) : MS := fun e m => match e[i]? with
  | some (some (.d (.int x))) => match f e m with
    | some (.d (.int y), m1) => some (.nx (e.set i (some (.d (.int (p x y))))), m1)
    | _ => none
  | _ => none
theorem q_aug {X : Cx} {i : Nat} {x : Str} {a : Expr} {f : ME} {op : Operator} {p : Int → Int → Int} {pos pos' : Pos} (hN : X.N.Nodup) (hi : X.N[i]? = some x) (hx : Loc X.env.scope x) (ha : PE X a (rd X.K f)) (ho : PIp X op (ipI p)) (hf : X.fn x = true ∨ X.env.scope.names.lookup x = some .local := by first | exact .inl rfl | exact .inr rfl | assumption) :
    PS X (.AugAssign (.Name x pos') op a pos) (rs X.K (sAug i p f)) :=
  PS.imp (ps_aug hN hi hx ha ho hf) fun D σ H ⟨ρ, e, m, R, E, oo, m', hr, k⟩ => by
    unfold sAug at hr
    split at hr
    case h_2 => cases hr
    rename_i y q1
    split at hr
    case h_2 => cases hr
    rename_i z m1 q2
    cases hr
    obtain ⟨v, v1, v2⟩ := E.get i _ q1
    cases v2
    refine ⟨_, v1, ?_⟩
    refine rd_mk R E q2 fun v2 H1 ρ1 g1 R1 E1 r1 => ?_
    cases r1
    exact ⟨y, z, rfl, rfl, k _ H1 ρ1 g1 R1 (E1.set i (x := .d (.int (p y z))) (Dt.int _))⟩
end DL
set_option Elab.async false
set_option linter.all false
set_option maxRecDepth 100000
set_option maxHeartbeats 4000000
namespace DL
open PySem PySem.Spec PyProof.Rows L2

/-! ### the law's call: nothing stands yet but the script -/
section
variable {P : Program} {w : World} {K : Frg} {mg mb : Str → Option Value} {k : Nat} {fa a : Addr} {fd : FuncData} {x : Str} {F : MF} {s1 : Shared} {vs : List Value} {ns : List Int}
abbrev Done (s1 : Shared) : Result → Shared → Prop := fun r s' => r = .ok (.ret (.bool true)) ∧ OldK s1.heap s'.heap ∧ s'.os = s1.os ∧ AllBare s'.gens
theorem law_core {H : Hp} (kx : K.In s1.heap) (hns : s1.heap.Ns mainGlobals mg) (hb : s1.heap.Ns builtinsNs mb) (hbb : ∀ x : Str, x ≠ "__name__" → mb x = bootBuiltins x) (hlim : s1.heap.NoLimit) (hg : s1.gens = #[])
    (ha : s1.heap.get? a = some { cls := .type "list", data := .seq vs.toArray }) (hr : Room k callerA) (G : ∀ base : Heap, K.In base → base.Ns mainGlobals mg → FnG P w K mg base k fa fd [x] F)
    (bd : ∀ (s : Shared) (u : Value), BindsTo s fd ⟨[u], []⟩ [(x, u)]) (hF : ∃ m', F [.f (ns.map PyData.int)] [] = some (.d (.bool true), m'))
    (hO : ∀ b, H b = none ∨ ∃ o xs, H b = some (.frz o (.lst xs))) (hS : SqL K H a (ns.map V.int)) (hok : HOk P w H s1.heap) (hA : ∀ b, H b ≠ none → b = a) (hK : H a ≠ none → K.lookup a = none) :
    codeAny (model P w) callerA (.call (.ref fa) ⟨[.ref a], []⟩) (Done s1) s1 := by
  -- what is not the script stays in the base
  have stays : ∀ {b : Addr} {o : Obj}, s1.heap.get? b = some o → H b = none → (hidT s1.heap H).get? b = some o := fun e n => hidT_get e n
  have notDict : ∀ {b : Addr} {o : Obj} {es : Array DictEntry} {ep : Nat}, s1.heap.get? b = some o → o.data = .dict es ep → H b = none := by
    intro b o es ep e d
    cases q : H b with
    | none => rfl
    | some u =>
      cases hA b (by rw [q]; exact fun z => nomatch z)
      rw [ha] at e
      cases e
      cases d
  have keepNs : ∀ {b : Addr} {m : Str → Option Value}, s1.heap.Ns b m → (hidT s1.heap H).Ns b m := by
    rintro b m ⟨o, es, ep, e, d, r⟩
    exact ⟨o, es, ep, stays e (notDict e d), d, r⟩
  have kb : K.In (hidT s1.heap H) := by
    intro b o e
    refine stays (kx b o e) ?_
    cases q : H b with
    | none => rfl
    | some u =>
      cases hA b (by rw [q]; exact fun z => nomatch z)
      rw [hK (by rw [q]; exact fun z => nomatch z)] at e
      cases e
  have md : Mod K mg (hidT s1.heap H) := by
    obtain ⟨mc, c1, c2⟩ := hlim
    exact ⟨kb, keepNs hns, ⟨mb, keepNs hb, hbb⟩, ⟨mc, keepNs c1, c2⟩⟩
  have e0 : Env0 P w K mg (hidT s1.heap H) callerA [] s1 H :=
    { frames := rfl, mod := md, bs := fun b o e => of_hidT e, bsz := Nat.le_of_eq (hidT_size _ _), funs := trivial, frf := fun b hb => absurd (show b ∈ ([] : List Addr) from hb) (by simp), hok := hok, bare := .of_eq hg }
  have R0 : RelM K H [] [] := ⟨rfl, List.nodup_nil, fun b hb => absurd hb (by simp), fun i b o e => by simp at e⟩
  have hh : hid [] [] H = H := by
    funext b
    exact hid_no (fun ⟨i, o, e, _⟩ => by simp at e)
  have dta : ∀ l : List Int, DtA K H (l.map V.int) (l.map PyData.int) := by
    intro l
    induction l with
    | nil => exact .nil
    | cons n l ih => exact .cons (.int n) ih
  obtain ⟨m', hF⟩ := hF
  have sp0 : spD K F [.ref a] H (fun v _ => v = .bl true) E0 := by
    refine ⟨[], [], [.f (ns.map PyData.int)], R0, .cons ?_ .nil, _, m', hF, fun v H' ρ' _ _ hv => ?_⟩
    · rw [hh]
      exact ⟨a, _, rfl, hS, dta ns⟩
    · cases hv
      rfl
  refine codeAny_mono ((G _ kb (keepNs hns)).run callerA [] s1 H ⟨[.ref a], []⟩ [.ref a] [.ref a] _ rfl hr e0 (bd s1 (.ref a)) (.cons rfl .nil) sp0) fun r s2 hq => ?_
  match r, hq with
  | .error e, hq => exact False.elim hq
  | .ok .next, hq => exact False.elim hq
  | .ok .brk, hq => exact False.elim hq
  | .ok .cont, hq => exact False.elim hq
  | .ok (.ret u), hq =>
    obtain ⟨v, H', os, bare, un, hok2, rv, q⟩ := hq
    cases (show v = .bl true from q)
    cases (show u = Value.bool true from rv)
    refine ⟨rfl, OldK.of_keep fun b o e => ?_, os, bare⟩
    rcases hO b with z | ⟨ob, xs, z⟩
    · exact un.keep b o e z (by intro z; exact absurd (show b ∈ ([] : List Addr) from z) (by simp)) (by simp)
    · obtain ⟨e2, _⟩ := hok2 b _ (un.frzs b ob _ z)
      obtain ⟨e1, _⟩ := hok b _ z
      rw [e] at e1
      cases e1
      exact e2
theorem law_g (kx : K.In s1.heap) (hns : s1.heap.Ns mainGlobals mg) (hb : s1.heap.Ns builtinsNs mb) (hbb : ∀ x : Str, x ≠ "__name__" → mb x = bootBuiltins x) (hlim : s1.heap.NoLimit) (hg : s1.gens = #[])
    (ha : s1.heap.get? a = some { cls := .type "list", data := .seq vs.toArray }) (hi : IntsAre vs ns) (hl : ns.length ≤ sizeLine) (hr : Room k callerA) (G : ∀ base : Heap, K.In base → base.Ns mainGlobals mg → FnG P w K mg base k fa fd [x] F)
    (bd : ∀ (s : Shared) (u : Value), BindsTo s fd ⟨[u], []⟩ [(x, u)]) (hF : ∃ m', F [.f (ns.map PyData.int)] [] = some (.d (.bool true), m')) :
    codeAny (model P w) callerA (.call (.ref fa) ⟨[.ref a], []⟩) (Done s1) s1 := by
  have rv := vals_ints hi
  cases hk : K.lookup a with
  | some o =>
    -- an object of the module's own
    have e := kx a o hk
    rw [ha] at e
    cases e
    refine law_core (H := fun _ => none) kx hns hb hbb hlim hg ha hr G bd hF (fun _ => .inl rfl) ?_ (fun b u z => by have z' : (none : Option HO) = some u := z; cases z') (fun b z => absurd rfl z) fun z => absurd rfl z
    exact .inr ⟨_, vs.toArray, _, hk, rfl, rfl, rfl, by rw [List.size_toArray, hi.length]; exact hl, by simpa using rv⟩
  | none =>
    have at1 : ∀ (b : Addr) (u : HO), (if b = a then some (HO.frz { cls := .type "list", data := .seq vs.toArray } (.lst (ns.map V.int))) else none) = some u → b = a ∧ u = HO.frz { cls := .type "list", data := .seq vs.toArray } (.lst (ns.map V.int)) := by
      intro b u z
      split at z
      · cases z; exact ⟨by assumption, rfl⟩
      · cases z
    refine law_core (H := fun b => if b = a then some (.frz { cls := .type "list", data := .seq vs.toArray } (.lst (ns.map V.int))) else none) kx hns hb hbb hlim hg ha hr G bd hF (fun b => ?_) (.inl (.inr ⟨_, if_pos rfl⟩)) (fun b u z => ?_) (fun b z => ?_) fun _ => hk
    · by_cases e : b = a
      · exact .inr ⟨_, _, if_pos e⟩
      · exact .inl (if_neg e)
    · obtain ⟨rfl, rfl⟩ := at1 b u z
      exact ⟨ha, by rw [List.length_map]; exact hl, vs, _, rv, ha⟩
    · by_cases e : b = a
      · exact e
      · exact absurd (if_neg e) z
end
/-- the goal that is left of the head -/
theorem walk_g {l : PySem.W.OpenLaw} {n k : Nat} {q : Program} {loose : List Str} {XP : (Str → Option Value) → Heap → Prop} {YP : World → Heap → Prop} {d : DefRec} {K : Params → Frg} {F : MF} {x : Str}
    (hn : l.most = some n) (hn2 : n ≤ sizeLine) (hdf : d.params.defaults = []) (hr : Room k callerA) (hY : ∀ (w : World) (h : Heap), YP w h → (K w.params).In h)
    (G : ∀ (w : World) (mg : Str → Option Value) (fa : Addr) (h : Heap), (K w.params).In h → h.Ns mainGlobals mg → mg d.name = some (.ref fa) →
      ∃ fd : FuncData, (∀ (s : Shared) (u : Value), BindsTo s fd ⟨[u], []⟩ [(x, u)]) ∧ ∀ base : Heap, (K w.params).In base → base.Ns mainGlobals mg → FnG l.prog w (K w.params) mg base k fa fd [x] F)
    (hF : ∀ ns : List Int, ns.length ≤ n → ∃ m', F [.f (ns.map PyData.int)] [] = some (.d (.bool true), m')) :
    PySem.W.WalkO q loose XP YP l.row.toRowW d [] (fun f vs => PySem.call f vs) := by
  refine Att.attach_call hn hdf fun w s0 s1 mg mb fa o pm cd doc a vs ns Gr Y ho hd hcd hmg hobj hints hlen hg => ?_
  have kx := hY w _ Y
  obtain ⟨fd, bd, hG⟩ := G w mg fa _ kx Gr.T.g hmg
  exact law_g kx Gr.T.g Gr.T.b Gr.T.builtins Gr.T.nolimit hg hobj hints (Nat.le_trans hlen hn2) hr hG bd (hF ns hlen)
end DL
set_option Elab.async false
set_option linter.all false
set_option maxRecDepth 100000
set_option maxHeartbeats 4000000
/-! x[::-1] of a list or a tuple; few times the empty tuple; a call with lists lent -/
namespace DLr
open PySem PySem.Spec PyProof.Rows HT
section
variable {prog : Program} {w : World} {A : Around} {E : Value → Shared → Prop} {s : Shared}
theorem adj_rev (n : Nat) : Builtin.Slice.sliceAdjust none none (-1) (n : Int) = ((n : Int) - 1, -1) := by
  unfold Builtin.Slice.sliceAdjust
  have h1 : (-1 : Int) < 0 := by omega
  simp only [h1, if_true] <;> (first | rfl | (congr 1 <;> omega))
theorem places_rev (n : Nat) : Builtin.Slice.slicePlaces ((n : Int) - 1) (-1) (-1) = n := by
  unfold Builtin.Slice.slicePlaces
  have h1 : ¬ (-1 : Int) > 0 := by omega
  have h2 : -(-1 : Int) = 1 := by omega
  simp only [h1, if_false, h2, Int.ediv_one]
  split <;> omega
theorem applied_rev {sl : Addr} {vs : Value} {n : Nat} {Q : Int × Int × Nat → Shared → Prop} (hs : s.heap.IsSliceOf sl .none .none vs) (ps : IsPart vs (some (-1))) (h : Q ((n : Int) - 1, -1, n) s) :
    wpAny (model prog w) A (Builtin.Slice.sliceApplied (.ref sl) (pure (n : Int))) Q E s := by
  obtain ⟨os, hos, hcs, hds⟩ := id hs
  unfold Builtin.Slice.sliceApplied Builtin.Slice.sliceFields
  refine wpAny_bind (wpAny_bind (wpAny_field hos hds (x := .none) rfl (wpAny_bind (wpAny_field hos hds (x := .none) rfl (wpAny_bind (wpAny_field hos hds (x := vs) rfl (wpAny_pure ?_)))))))
  refine wpAny_bind (slicePart_ ps ?_)
  show wpAny _ _ (if ((-1 : Int) == 0) = true then _ else _) _ _ s
  rw [if_neg (by decide)]
  refine wpAny_bind (slicePart_none (wpAny_bind (slicePart_none (wpAny_bind (wpAny_pure ?_)))))
  show wpAny _ _ (match Builtin.Slice.sliceAdjust none none (-1) (n : Int) with | (lo, hi) => pure (lo, (-1 : Int), Builtin.Slice.slicePlaces lo hi (-1))) _ _ s
  rw [adj_rev n]
  show wpAny _ _ (pure ((n : Int) - 1, (-1 : Int), Builtin.Slice.slicePlaces ((n : Int) - 1) (-1) (-1))) _ _ s
  rw [places_rev]
  exact wpAny_pure h
theorem pick_rev (xs : Array Value) : ((List.range xs.size).filterMap fun (m : Nat) => xs[(((xs.size : Int) - 1) + (m : Int) * (-1)).toNat]?).toArray = xs.toList.reverse.toArray := by
  congr 1
  apply List.ext_getElem?
  intro i
  have e : ∀ l : List Nat, (∀ m ∈ l, m < xs.size) → l.filterMap (fun (m : Nat) => xs[(((xs.size : Int) - 1) + (m : Int) * (-1)).toNat]?) = l.map fun m => xs.toList.reverse[m]?.getD .none := by
    intro l
    induction l with
    | nil => intro _; rfl
    | cons m l ih =>
      intro hl
      have hm : m < xs.size := hl m List.mem_cons_self
      have h1 : (((xs.size : Int) - 1) + (m : Int) * (-1)).toNat = xs.size - 1 - m := by omega
      have h2 : xs[xs.size - 1 - m]? = some (xs[xs.size - 1 - m]'(by omega)) := Array.getElem?_eq_getElem (by omega)
      have h3 : xs.toList.reverse[m]? = some (xs[xs.size - 1 - m]'(by omega)) := by
        rw [List.getElem?_reverse (by simpa using hm)]
        simp only [Array.length_toList, Array.getElem?_toList]
        exact h2
      rw [List.filterMap_cons, h1, h2, List.map_cons, h3, ih fun k hk => hl k (List.mem_cons_of_mem _ hk)]
      rfl
  rw [e _ fun m hm => List.mem_range.mp hm, List.getElem?_map]
  by_cases hi : i < xs.size
  · rw [List.getElem?_range hi, Option.map_some, List.getElem?_eq_getElem (by simpa using hi)]
    rfl
  · rw [List.getElem?_eq_none (by simpa using hi), List.getElem?_eq_none (by simpa using hi)]
    rfl
theorem getItem_rev {t sl : Addr} {items : Array Value} {vs : Value} {Q : Value → Shared → Prop} (ht : IsTup s.heap t items) (hs : s.heap.IsSliceOf sl .none .none vs) (ps : IsPart vs (some (-1)))
    (h : Q (.ref s.heap.objs.size) { s with heap := s.heap.push { cls := .type "tuple", data := .seq items.toList.reverse.toArray } }) (hsz : items.size ≤ sizeLine) : wpAny (model prog w) A (getItem (.ref t) (.ref sl)) Q E s := by
  have hok : sizeOk (.seq items.toList.reverse.toArray) := by
    show items.toList.reverse.toArray.size ≤ sizeLine
    rw [List.size_toArray, List.length_reverse, Array.length_toList]
    exact hsz
  obtain ⟨os, hos, hcs, hds⟩ := id hs
  have hTs : s.TypeIs (.ref sl) "slice" := ⟨os, hos, hcs⟩
  unfold getItem
  try with_reducible refine wpAny_holding ?_
  first | refine wpAny_bind (wpAny_pure ?_) | skip
  refine wpAny_bind (wpAny_sequenceKey ht.typeIs (by decide) ?_)
  refine wpAny_bind (wpAny_callSpecial?_slot (name := Str.ofString "__getitem__") ht.typeIs PyProof.Rows.slot_tuple_getitem
    (wpAny_call_entry PyProof.Rows.slot_tuple_getitem ht.typeIs entry_tuple_getitem ?_ (args_tuple_getitem _ _)))
  show wpAny _ _ (Builtin.Tuple.tupleItemsOf (.ref t) >>= _) _ _ s
  refine wpAny_bind (tupleItemsOf_ ht ?_)
  refine wpAny_bind (wpAny_typeOf hTs ?_)
  rw [if_pos (by decide)]
  refine wpAny_bind (applied_rev hs ps ?_)
  have hno : ¬ ((((items.size : Int) - 1) == 0 && (-1 : Int) == 1 && items.size == items.size) = true) := by
    simp
  show wpAny _ _ (if (((items.size : Int) - 1) == 0 && (-1 : Int) == 1 && items.size == items.size) = true then _ else _) _ _ s
  rw [if_neg hno, pick_rev]
  first
    | exact wpAny_bind (m := Builtin.Tuple.tupleExact _) (wpAny_newObj_type (wpAny_pure ⟨_, rfl, wpAny_pure h⟩) hok)
    | exact wpAny_bind (m := Builtin.Tuple.tupleExact _) (wpAny_newObj_type (wpAny_bind (wpAny_pure (wpAny_pure ⟨_, rfl, wpAny_pure h⟩))) hok)
    | exact wpAny_bind (wpAny_bind (m := Builtin.Tuple.tupleExact _) (wpAny_newObj_type (wpAny_pure (wpAny_pure ⟨_, rfl, wpAny_pure h⟩)) hok))
    | exact wpAny_bind (wpAny_bind (m := Builtin.Tuple.tupleExact _) (wpAny_newObj_type (wpAny_pure ⟨_, rfl, wpAny_pure h⟩) hok))
/-- the empty tuple so many times is itself -/
theorem mul_empty (l : Addr) (n : Nat) (dd : Option Addr) (sl : Array (Option Value)) (x : Int) (u : Tok) (c0 : (decide (x < -(2 ^ 63)) || decide (x ≥ 2 ^ 63)) = false) :
    Meets (Builtin.«tuple.__mul__» ⟨[.ref l, .int x u], []⟩) (fun _ R s => s.heap.get? l = some { cls := .type "tuple", dict := dd, data := .seq #[] n, slots := sl } ∧ R (.ok (.ret (Value.ref l))) s) :=
  .of_wp fun prog w A R s h => by
    obtain ⟨hp, g, d, tk, os⟩ := s
    obtain ⟨hl, h⟩ := h
    have f1 := AutoSeq1.idx_int
    wp_walk using wpAny_loadPart' hl
    repeat (first
      | (refine wpAny_ite_false (decide_eq_false (by rw [c0]; exact Bool.false_ne_true)) ?_; wp_walk using wpAny_loadPart' hl)
      | (refine wpAny_ite_true (decide_eq_true (by simp)) ?_; wp_walk using wpAny_loadPart' hl))
    exact ⟨_, rfl, h⟩
end
end DLr
namespace DL
open PySem PySem.Spec PyProof.Rows L2
section
variable {X : Cx}
theorem op_rep0 : OpR X (binaryOp .Mult) (fun x y H Q => ∃ l k, x = .ref l ∧ y = .int k ∧ SqT X.K H l [] ∧ -(2 ^ 63) ≤ k ∧ k < 2 ^ 63 ∧ Q (.ref l) H) := by
  intro pins s σ H x y v u Q I rx ry h
  obtain ⟨l, k, rfl, rfl, hT, h1, h2, q⟩ := h
  cases rx
  obtain ⟨t, rfl⟩ := ry
  obtain ⟨its, r, ⟨⟨cls, dd, data, sl⟩, ho, hc, n, hd⟩, hs⟩ := I.tuple hT
  simp only at hc hd
  subst hc hd
  cases r
  have c0 : (decide (k < -(2 ^ 63)) || decide (k ≥ 2 ^ 63)) = false := by
    rw [decide_eq_false (by omega), decide_eq_false (by omega)]
    rfl
  exact wpAny_binaryOp_repeat_ref (T := "tuple") (U := "int") (by decide) ⟨_, ho, rfl⟩ (fun s' => typeIs_int s' k t) noFill_tuple_mul F.fills_int_mul F.slot_int_rmul repeat_tuple F.slot_int_index.lookup
    (call_meets F.slot_int_rmul (typeIs_int s k t) F.entry_int_rmul (F.args_int_rmul_2 _ _) (int_rmul_tuple k t l #[] n dd sl)
      ⟨ho, rfl, ⟨_, ho, rfl⟩, call_meets F.slot_tuple_mul ⟨_, ho, rfl⟩ F.entry_tuple_mul (F.args_tuple_mul_2 _ _) (DLr.mul_empty l n dd sl k t c0) ⟨ho, .ref l, H, I, rfl, q⟩⟩)
theorem rep_size (a : Array Nat) : ∀ (n : Nat) (b : Array Nat), ((List.replicate n a).foldl (· ++ ·) b).size = b.size + n * a.size
  | 0, b => by simp
  | n + 1, b => by rw [List.replicate_succ, List.foldl_cons, rep_size a n, Array.size_append, Nat.add_mul]; omega
theorem op_repS : OpR X (binaryOp .Mult) (fun x y H Q => ∃ z k, x = .str z ∧ y = .int k ∧ 2 ≤ k ∧ k ≤ 1000 ∧ 1 ≤ z.length ∧ z.length ≤ 1000 ∧ Q (.str ⟨(List.replicate k.toNat z.cps).foldl (· ++ ·) #[]⟩) H) := by
  intro pins s σ H x y v u Q I rx ry h
  obtain ⟨z, k, rfl, rfl, h1, h2, h3, h4, q⟩ := h
  obtain ⟨t, rfl⟩ := rx
  obtain ⟨t', rfl⟩ := ry
  have c1 : (k == 1 || z.length == 0) = false := by
    rw [Bool.or_eq_false_iff]
    exact ⟨beq_eq_false_iff_ne.mpr (by omega), beq_eq_false_iff_ne.mpr (by omega)⟩
  refine P.mul_str (by rw [decide_eq_false (by omega), decide_eq_false (by omega)]; rfl) (fun _ _ => ?_) (fun _ _ => ?_) ?_
  · have hp : (z.length : Int) * k ≤ 1000 * 1000 := Int.mul_le_mul (by omega) h2 (by omega) (by omega)
    have : (z.length : Int) ≤ ((2 : Int) ^ 63 - 1) / k := (Int.le_ediv_iff_mul_le (by omega)).mpr (by omega)
    omega
  · unfold PySem.Builtin.Str.tooLong
    rw [sizeLine_eq]
    refine decide_eq_false ?_
    have : z.length * k.toNat ≤ 1000 * 1000 := Nat.mul_le_mul h4 (by omega)
    omega
  · rw [if_neg (by omega), c1, if_neg Bool.false_ne_true]
    refine ⟨?_, .str _, H, I.tok _, ⟨_, rfl⟩, q⟩
    show ((List.replicate k.toNat z.cps).foldl (· ++ ·) #[]).size ≤ sizeLine
    rw [rep_size, sizeLine_eq]
    have : k.toNat * z.length ≤ 1000 * 1000 := Nat.mul_le_mul (by omega) h4
    have e : z.cps.size = z.length := rfl
    simp only [List.size_toArray, List.length_nil, e]
    omega
def repS (z : Str) (k : Int) : Str := ⟨(List.replicate k.toNat z.cps).foldl (· ++ ·) #[]⟩
/-- * of any two things that it is told of -/
def mulD' : PyData → PyData → Option PyData
  | .tuple [], .int k => if -(2 ^ 63) ≤ k ∧ k < 2 ^ 63 then some (.tuple []) else none
  | .str z, .int k => if 2 ≤ k ∧ k ≤ 1000 ∧ 1 ≤ z.length ∧ z.length ≤ 1000 then some (.str (repS z k)) else none
  | x, y => mulD x y
theorem od_mul' : OpR X (binaryOp .Mult) (rop X.K mulD') := by
  intro pins s σ H x y v u Q I rx ry h
  obtain ⟨ρ, m, dx, dy, z, R, hx, hy, hz, k⟩ := h
  unfold mulD' at hz
  split at hz
  · split at hz
    · rename_i hk
      cases hz
      cases hy.int
      cases hx with
      | d hx =>
      cases hx with
      | tup h1 h2 =>
      cases h2
      exact op_rep0 pins s σ H _ _ v u Q I rx ry ⟨_, _, rfl, rfl, sqt_same hid_le h1, hk.1, hk.2, rop_k R k (.tup h1 .nil)⟩
    · cases hz
  · split at hz
    · rename_i hk
      cases hz
      cases hy.int
      cases hx.str
      exact op_repS pins s σ H _ _ v u Q I rx ry ⟨_, _, rfl, rfl, hk.1, hk.2.1, hk.2.2.1, hk.2.2.2, rop_k R k (.str _)⟩
    · cases hz
  · exact od_mul pins s σ H x y v u Q I rx ry ⟨ρ, m, dx, dy, z, R, hx, hy, hz, k⟩

/-! ### x[::-1] -/
def revD : PyData → Option PyData
  | .list xs => some (.list xs.reverse)
  | .tuple xs => some (.tuple xs.reverse)
  | _ => none
def eRev (f : ME) : ME := fun e m => match f e m with
  | some (x, m1) => match vw m1 x with
    | some d => match revD d with
      | some z => some (.d z, m1)
      | none => none
    | none => none
  | none => none
theorem q_rev {a : Expr} {f : ME} {k : Nat} {p1 p2 p3 pos : Pos} (ha : PE X a (rd X.K f)) : PE X (.Subscript a (.Slice none none (some (.UnaryOp .USub (.Constant (.int 1) k p1) p2)) p3) pos) (rd X.K (eRev f)) := by
  refine ⟨fun pins s σ H Q I h => ?_⟩
  obtain ⟨ρ, e, m, R, E, r, m', hr, kk⟩ := h
  unfold eRev at hr
  split at hr
  case h_2 => cases hr
  rename_i x m1 q1
  split at hr
  case h_2 => cases hr
  rename_i d q2
  split at hr
  case h_2 => cases hr
  rename_i z q3
  cases hr
  have hq : rd X.K f σ H fun v H1 => ∃ ρ1, VwR X.K (hid ρ1 m' H1) H1 v d ∧ RelM X.K H1 ρ1 m' ∧ ∀ v H', Gr ρ1 m' H1 ρ1 m' H' → RelM X.K H' ρ1 m' → Dt X.K (hid ρ1 m' H') v z → Q v H' :=
    rd_mk R E q1 fun v H1 ρ1 g1 R1 E1 r1 => ⟨ρ1, vw_of R1 r1 q2, R1, fun v H' g R' hv => kk v H' ρ1 (g1.trans g) R' hv⟩
  refine Subscript_ (thn (ha.run pins s σ H _ I hq) fun v s1 ⟨y, H1, I1, r1, ρ1, hx, R1, k1⟩ => ?_)
  have hst : PO X (some (.UnaryOp .USub (.Constant (.int 1) k p1) p2)) (tPart (tUn (rU fun i => .int (-i)) (tC (.int 1)))) := po_some (pe_un un_neg pe_int)
  refine wpAny_Slice (thn (po_none.run pins s1 σ H1 (fun o H2 => o = none ∧ H2 = H1) I1 ⟨rfl, rfl⟩) fun vl s2 ⟨l, H2, I2, pl, el, e2⟩ => ?_)
  subst el e2
  refine thn (po_none.run pins s2 σ H2 (fun o H3 => o = none ∧ H3 = H2) I2 ⟨rfl, rfl⟩) fun vu s3 ⟨u, H3, I3, pu, eu, e3⟩ => ?_
  subst eu e3
  refine thn (hst.run pins s3 σ H3 (fun o H4 => o = some (-1) ∧ H4 = H3) I3 ⟨1, rfl, -1, rfl, rfl, rfl⟩) fun vs s4 ⟨o, H4, I4, ps, eo, e4⟩ => ?_
  subst eo e4
  have I5 : Inv X pins σ H4 { s4 with heap := s4.heap.push { cls := .type "slice", data := .fields #[vl, vu, vs] } } := I4.kept (t' := s4.toks) fun b ob q => Heap.get?_push_of_some _ q
  cases pl
  cases pu
  unfold revD at q3
  split at q3
  · cases q3
    obtain ⟨b, xs, rfl, x1, x2⟩ := hx.list hid_le
    cases r1
    obtain ⟨its, rr, ht, hz⟩ := I5.list (.inl (.inl x1) : SqL X.K H4 b xs)
    have hlen := rr.length
    refine tail_any (ops := [.ref b, .ref s4.heap.objs.size]) ht.isList.typeIs (PySem.slot_list_getitem.lookup) ?_ (by with_unfolding_all rfl)
    refine wpAny_getItem_list_slice ht.isList (Heap.IsSliceOf.new _ .none .none vs) .none .none ps (by decide) ?_ (by rw [List.size_toArray]; omega)
    rw [PySem.W.krv_pick]
    refine ⟨.ref _, _, I5.laid (t' := s4.toks) (o := .lst xs.reverse) (fun b ob q => Heap.get?_push_of_some _ q) (Nat.le_refl _) ?_, rfl, rop_new R1 k1 x2.rev (I5.hok.fresh (Nat.le_refl _))⟩
    exact ⟨by rw [List.length_reverse]; exact hz, _, 0, rr.reverse, Heap.get?_push_size _ rfl⟩
  · cases q3
    obtain ⟨b, xs, rfl, x1, x2⟩ := hx.tuple hid_le
    cases r1
    obtain ⟨its, rr, ht, hz⟩ := I5.tuple x1
    have hlen := rr.length
    refine tail_any (ops := [.ref b, .ref s4.heap.objs.size]) ht.typeIs (PyProof.Rows.slot_tuple_getitem.lookup) ?_ (by with_unfolding_all rfl)
    refine DLr.getItem_rev ht (Heap.IsSliceOf.new _ .none .none vs) ps ?_ (by rw [List.size_toArray]; omega)
    refine ⟨.ref _, _, I5.laid (t' := s4.toks) (o := .tup xs.reverse) (fun b ob q => Heap.get?_push_of_some _ q) (Nat.le_refl _) ?_, rfl, rop_newT R1 k1 x2.rev (I5.hok.fresh (Nat.le_refl _))⟩
    exact ⟨by rw [List.length_reverse]; exact hz, _, rr.reverse, IsTup.new _ _⟩
  · cases q3
end
end DL
set_option Elab.async false
set_option linter.all false
set_option maxRecDepth 100000
set_option maxHeartbeats 4000000
namespace DL
open PySem PySem.Spec PyProof.Rows L2

/-! ### defs by name -/
structure Has (P : Program) (w : World) (K : Frg) (mg : Str → Option Value) (base : Heap) (x : Str) (k : Nat) (ps : List Str) (F : MF) : Prop where
  ex : ∃ (a : Addr) (fd : FuncData), FnG P w K mg base k a fd ps F ∧ mg x = some (.ref a) ∧ PySem.W.keepIn K (.ref a) = true ∧ Binds K fd ps []
theorem Has.up {P : Program} {w : World} {K : Frg} {mg : Str → Option Value} {base : Heap} {x : Str} {j k : Nat} {ps : List Str} {F : MF} (h : Has P w K mg base x j ps F) (l : j ≤ k) : Has P w K mg base x k ps F := by
  obtain ⟨a, fd, h1, h2⟩ := h.ex
  exact ⟨a, fd, h1.up l, h2⟩
theorem q_callH {X : Cx} {k : Nat} {ps : List Str} {F : MF} {x : Str} {p pos : Pos} {a : Expr} {es : List Expr} {fa : MA} (h : Has X.prog X.w X.K X.mg X.base x k ps F) (gd : X.A.guards = some []) (rm : Room k X.A) (gx : Gl X x)
    (ha : PA X (a :: es) (ra X.K fa)) (hdb : (x == ("__debug__" : Str)) = false := by decide) (he : starEach (a :: es) X.env = (false, eval a X.env) :: starEach es X.env := by rfl) (hpl : (backTo pos (starEach es X.env)).any (·.1) = false := by rfl) :
    PE X (.Call (.Name x p) (a :: es) [] pos) (rd X.K (eCall F fa)) := by
  obtain ⟨b, fd, h1, h2, h3, h4⟩ := h.ex
  exact q_call h1 gd rm gx h2 h3 h4 ha hdb he hpl
theorem fng_none {P : Program} {w : World} {K : Frg} {mg : Str → Option Value} {base : Heap} {k : Nat} {f : Addr} {fd : FuncData} {ps : List Str} : FnG P w K mg base k f fd ps (fun _ _ => none) := by
  refine ⟨fun _ _ _ h => (by cases h), fun A o s H args us vs Q g rm e0 bd r h => ?_⟩
  obtain ⟨ρ, m, rs, _, _, r', m', hF, _⟩ := h
  cases hF
theorem room64 {A : Around} {k : Nat} (h : Room k A) : A.units + 64 < cLine := by have := h.un; omega
theorem room65 {A : Around} {k : Nat} (h : Room k A) : A.units + 65 < cLine := by have := h.un; omega
theorem room1 {A : Around} {k : Nat} (h : Room k A) : A.units + 1 < cLine := by have := h.un; omega

theorem fng2 {P : Program} {w : World} {K : Frg} {mg : Str → Option Value} {base : Heap} {x qual : Str} {st : Stmt} {f : Addr} {fd : FuncData} {N ps : List Str} {k n m : Nat} {b : MS} (F : Fun K x qual st f fd) (S : FnScope N ps (defScope st)) (hn : ps.length = n) (hm : N.length = m) (hle : n ≤ m)
    (body : ∀ (cdv : Value) (A : Around) (outer : List Env) (s : Shared) (H : Hp), A.guards = some [] → Room k (A.deeper (envOfC qual (defScope st) s.heap.objs.size f cdv)) →
      PSs (bodyCx P w K mg base N qual st f cdv A outer s H) (defBody st) (rs K b)) : FnG P w K mg base (k + 1) f fd ps (fnM n m b) := by
  subst hn hm
  exact fng F S hle body
/-! ### -n, constants of the module, pass -/
def eNeg (f : ME) : ME := fun e m => match f e m with
  | some (.d (.int i), m1) => some (.d (.int (-i)), m1)
  | _ => none
section
variable {X : Cx} {pos p : Pos} {a : Expr} {f : ME} {x : Str}
theorem q_neg (ha : PE X a (rd X.K f)) : PE X (.UnaryOp .USub a pos) (rd X.K (eNeg f)) := PE.imp (pe_un un_neg ha) fun σ H Q ⟨ρ, e, m, R, E, r, m', hr, k⟩ => by
  unfold eNeg at hr
  split at hr
  · rename_i i m1 h
    cases hr
    refine rd_mk R E h fun v H' ρ' g R' E' q => ?_
    cases q
    exact ⟨i, rfl, k _ H' ρ' g R' (Dt.int _)⟩
  · cases hr
theorem q_gstr {z : Str} (hg : Gl X x) (hm : ∃ t, X.mg x = some (.str z t)) (hdb : (x == ("__debug__" : Str)) = false := by decide) : PE X (.Name x pos) (rd X.K (eC (.str z))) := by
  obtain ⟨t, h⟩ := hm
  exact q_glob hg h (v := .str z) ⟨t, rfl⟩ (fun _ => .str z) hdb
theorem q_gint {z : Int} (hg : Gl X x) (hm : ∃ t, X.mg x = some (.int z t)) (hdb : (x == ("__debug__" : Str)) = false := by decide) : PE X (.Name x pos) (rd X.K (eC (.int z))) := by
  obtain ⟨t, h⟩ := hm
  exact q_glob hg h (v := .int z) ⟨t, rfl⟩ (fun _ => .int z) hdb
theorem q_pass : PS X (.Pass pos) (rs X.K sNil) := PS.imp ps_pass fun D σ H ⟨ρ, e, m, R, E, o, m', hr, k⟩ => by
  cases hr
  exact k σ H ρ .refl R E
end
/-- a, b = e, f -/
def sPar (i j : Nat) (fa : MA) : MS := fun e m => match fa e m with
  | some ([x, y], m1) => some (.nx ((e.set i (some x)).set j (some y)), m1)
  | _ => none
def sPar3 (i j l : Nat) (fa : MA) : MS := fun e m => match fa e m with
  | some ([x, y, z], m1) => some (.nx (((e.set i (some x)).set j (some y)).set l (some z)), m1)
  | _ => none
theorem par_mk {K : Frg} {i j : Nat} {fa : MA} {D : Ends} {σ : L2.St} {H : Hp} (h : rs K (sPar i j fa) D σ H) : ra K fa σ H fun vs H1 => ∃ v w, vs = [v, w] ∧ D.nx ((σ.set i (some v)).set j (some w)) H1 := by
  obtain ⟨ρ, e, m, R, E, o, m', hr, k⟩ := h
  unfold sPar at hr
  split at hr
  · rename_i x y m1 h1
    cases hr
    refine ra_mk R E h1 fun vs H1 ρ1 g1 R1 E1 q => ?_
    cases q with
    | cons q1 q2 =>
      cases q2 with
      | cons q2 q3 =>
        cases q3
        exact ⟨_, _, rfl, k _ H1 ρ1 g1 R1 ((E1.set i q1).set j q2)⟩
  · cases hr
theorem q_par {X : Cx} {i j : Nat} {x y : Str} {a b : Expr} {fa : MA} {px py pt pos : Pos} {kt k2 pt2} (hc : X.calm = true) (hN : X.N.Nodup) (hi : X.N[i]? = some x) (hj : X.N[j]? = some y) (hij : i ≠ j) (hx : X.env.scope.names.lookup x = some .local) (hy : X.env.scope.names.lookup y = some .local)
    (ha : PA X [a, b] (ra X.K fa)) (hw : swappedStores [.Tuple [.Name x px, .Name y py] kt pt] (.Tuple [a, b] k2 pt2) X.env = pure (some [x, y]) := by rfl) (hs : swapsWithSole [.Tuple [.Name x px, .Name y py] kt pt] (.Tuple [a, b] k2 pt2) pos.line X.env = pure false := by rfl) :
    PS X (.Assign [.Tuple [.Name x px, .Name y py] kt pt] (.Tuple [a, b] k2 pt2) pos) (rs X.K (sPar i j fa)) := PS.imp (ps_par hc hN hi hj hij hx hy ha hw hs) fun D σ H h => par_mk h
end DL
set_option Elab.async false
set_option linter.all false
set_option maxRecDepth 100000
set_option maxHeartbeats 8000000
namespace Lw
open PySem PySem.Spec PyProof.Rows L2 DL
def topS (i : Nat) : Stmt := PySem.Challenge.pw_spoolrounds_k01_rows_of_thread.main.body.getD i (.Pass ⟨0, 0, 0, 0⟩)
abbrev fuel__law_anything : Nat := 6
abbrev fuel__law_bent : Nat := 12
/-- the names that the text leans on -/
structure Tx (mg : Str → Option Value) : Prop where
  b_abs : mg "abs" = none
  b_all : mg "all" = none
  b_bool : mg "bool" = none
  b_int : mg "int" = none
  b_isinstance : mg "isinstance" = none
  b_len : mg "len" = none
  b_list : mg "list" = none
  b_range : mg "range" = none
  b_repr : mg "repr" = none
  b_reversed : mg "reversed" = none
  b_str : mg "str" = none
  b_sum : mg "sum" = none
  b_tuple : mg "tuple" = none
  g_LAST_NUMBER : ∃ t, mg "LAST_NUMBER" = some (.int 1000000000000000000 t)
  g_LETTERS : ∃ t, mg "LETTERS" = some (.str (Str.ofString "abcdefghijklmnopqrstuvwxyz") t)
  g_LONGEST_WORD : ∃ t, mg "LONGEST_WORD" = some (.int 8 t)
end Lw
set_option Elab.async false
set_option linter.all false
set_option maxRecDepth 100000
set_option maxHeartbeats 8000000
namespace Lw
open PySem PySem.Spec PyProof.Rows L2 DL
section
variable {P : Program} {w : World} {K : Frg} {mg : Str → Option Value} {base : Heap}
/-! ### is_whole -/
abbrev s_is_whole : Stmt := topS 1
abbrev N_is_whole : List Str := ["thing"]
theorem sc_is_whole : FnScope N_is_whole ["thing"] (defScope s_is_whole) := ⟨rfl, rfl, rfl, by decide +kernel, rfl, by decide +kernel, by decide +kernel⟩
noncomputable def b_is_whole : MS :=
  (sRet (eAnd (eIs "int" (eVar 0)) (eNot (eIs "bool" (eVar 0)))))
noncomputable def m_is_whole : MF := fnM 1 1 b_is_whole
theorem fn_is_whole {a : Addr} {fd : FuncData} (F : Fun K "is_whole" "is_whole" s_is_whole a fd) (T : Tx mg) : FnG P w K mg base 1 a fd ["thing"] m_is_whole := by
  have S := sc_is_whole
  unfold m_is_whole
  refine fng2 (k := 0) (b := b_is_whole) F S rfl rfl (by decide) ?_
  intro cdv A outer s H gd hr
  exact (qs_one (q_ret (q_and (q_isi rfl T.b_isinstance rfl T.b_int (by decide +kernel) (q_var (pv 0))) (q_one (q_not (q_isi rfl T.b_isinstance rfl T.b_bool (by decide +kernel) (q_var (pv 0))))))))
theorem ok_is_whole {a : Addr} {fd : FuncData} (F : Fun K "is_whole" "is_whole" s_is_whole a fd) (M : mg "is_whole" = some (.ref a)) (T : Tx mg) : Has P w K mg base "is_whole" 1 ["thing"] m_is_whole :=
  ⟨a, fd, fn_is_whole F T , M, F.kp, (F.binds (ps := ["thing"]) fun _ _ _ _ _ _ us hl => match us, hl with | [_], _ => rfl)⟩
end
end Lw
set_option Elab.async false
set_option linter.all false
set_option maxRecDepth 100000
set_option maxHeartbeats 8000000
namespace Lw
open PySem PySem.Spec PyProof.Rows L2 DL
section
variable {P : Program} {w : World} {K : Frg} {mg : Str → Option Value} {base : Heap}
/-! ### is_from_to -/
abbrev s_is_from_to : Stmt := topS 2
abbrev N_is_from_to : List Str := ["thing", "low", "high"]
theorem sc_is_from_to : FnScope N_is_from_to ["thing", "low", "high"] (defScope s_is_from_to) := ⟨rfl, rfl, rfl, by decide +kernel, rfl, by decide +kernel, by decide +kernel⟩
noncomputable def b_is_from_to : MS :=
  (sRet (eAnd (eCall m_is_whole (aCons (eVar 0) aNil)) (eChain leD leD (eVar 1) (eVar 0) (eVar 2))))
noncomputable def m_is_from_to : MF := fnM 3 3 b_is_from_to
theorem fn_is_from_to {a : Addr} {fd : FuncData} (F : Fun K "is_from_to" "is_from_to" s_is_from_to a fd) (T : Tx mg) (H_is_whole : Has P w K mg base "is_whole" 1 ["thing"] m_is_whole) : FnG P w K mg base 2 a fd ["thing", "low", "high"] m_is_from_to := by
  have S := sc_is_from_to
  unfold m_is_from_to
  refine fng2 (k := 1) (b := b_is_from_to) F S rfl rfl (by decide) ?_
  intro cdv A outer s H gd hr
  exact (qs_one (q_ret (q_and (q_callH (H_is_whole.up (by decide)) gd hr rfl (qa_cons (q_var (pv 0)) qa_nil)) (q_one (q_chain od_le od_le (q_var (pv 1)) (q_var (pv 0)) (q_var (pv 2)))))))
theorem ok_is_from_to {a : Addr} {fd : FuncData} (F : Fun K "is_from_to" "is_from_to" s_is_from_to a fd) (M : mg "is_from_to" = some (.ref a)) (T : Tx mg) (H_is_whole : Has P w K mg base "is_whole" 1 ["thing"] m_is_whole) : Has P w K mg base "is_from_to" 2 ["thing", "low", "high"] m_is_from_to :=
  ⟨a, fd, fn_is_from_to F T H_is_whole, M, F.kp, (F.binds (ps := ["thing", "low", "high"]) fun _ _ _ _ _ _ us hl => match us, hl with | [_, _, _], _ => rfl)⟩
end
end Lw
set_option Elab.async false
set_option linter.all false
set_option maxRecDepth 100000
set_option maxHeartbeats 8000000
namespace Lw
open PySem PySem.Spec PyProof.Rows L2 DL
section
variable {P : Program} {w : World} {K : Frg} {mg : Str → Option Value} {base : Heap}
/-! ### is_word -/
abbrev s_is_word : Stmt := topS 7
abbrev N_is_word : List Str := ["thing", "sign"]
theorem sc_is_word : FnScope N_is_word ["thing"] (defScope s_is_word) := ⟨rfl, rfl, rfl, by decide +kernel, rfl, by decide +kernel, by decide +kernel⟩
noncomputable def b_is_word : MS :=
  (sSeq (sIf (bNot (bTru (eIs "str" (eVar 0)))) (sRet (eC (.bool false))) sNil)
    (sRet (eAnd (eChain leD leD (eC (.int 1)) (eCB (c1 lenD) (aCons (eVar 0) aNil)) (eC (.int 8))) (eCB (c1 allD) (aCons (eFrz (eLc (iAny (eVar 0)) (gNm 1) cYes (eBin inD (eVar 1) (eC (.str "abcdefghijklmnopqrstuvwxyz"))) [1])) aNil)))))
noncomputable def m_is_word : MF := fnM 1 2 b_is_word
theorem fn_is_word {a : Addr} {fd : FuncData} (F : Fun K "is_word" "is_word" s_is_word a fd) (T : Tx mg) : FnG P w K mg base 1 a fd ["thing"] m_is_word := by
  have S := sc_is_word
  unfold m_is_word
  refine fng2 (k := 0) (b := b_is_word) F S rfl rfl (by decide) ?_
  intro cdv A outer s H gd hr
  exact (qs_cons (q_if (q_tnot (q_tru (q_isi rfl T.b_isinstance rfl T.b_str (by decide +kernel) (q_var (pv 0))))) (qs_one (q_ret q_bl)) qs_nil)
      (qs_one (q_ret (q_and (q_chain od_le od_le q_int (q_callB cd_len rfl T.b_len (by decide +kernel) (qa_cons (q_var (pv 0)) qa_nil)) (q_gint rfl T.g_LONGEST_WORD)) (q_one (q_callB (cd_all rfl) rfl T.b_all (by decide +kernel) (qa_cons (q_frz (q_lc (own := [("sign", 1)]) (g := (gNm 1)) (c := cYes) (f := (eBin inD (eVar 1) (eC (.str "abcdefghijklmnopqrstuvwxyz")))) rfl S.nd (q_iany (q_var (pv 0))) (blkOk_by (N := N_is_word) (sc := defScope s_is_word) (by decide +kernel)) (fun _ _ _ _ _ => (q_gname (vs := [1]) (i := 1) S.nd rfl (by first | exact Or.inl rfl | exact Or.inr rfl) (by decide))) (fun _ _ _ _ _ => q_tsnil) (fun _ _ _ _ _ => (q_cmp od_in (q_var (pv 1)) (q_gstr rfl T.g_LETTERS))))) qa_nil)))))))
theorem ok_is_word {a : Addr} {fd : FuncData} (F : Fun K "is_word" "is_word" s_is_word a fd) (M : mg "is_word" = some (.ref a)) (T : Tx mg) : Has P w K mg base "is_word" 1 ["thing"] m_is_word :=
  ⟨a, fd, fn_is_word F T , M, F.kp, (F.binds (ps := ["thing"]) fun _ _ _ _ _ _ us hl => match us, hl with | [_], _ => rfl)⟩
end
end Lw
set_option Elab.async false
set_option linter.all false
set_option maxRecDepth 100000
set_option maxHeartbeats 8000000
namespace Lw
open PySem PySem.Spec PyProof.Rows L2 DL
section
variable {P : Program} {w : World} {K : Frg} {mg : Str → Option Value} {base : Heap}
/-! ### last_number -/
abbrev s_last_number : Stmt := topS 10
abbrev N_last_number : List Str := ["stretch", "_", "first", "many", "way"]
theorem sc_last_number : FnScope N_last_number ["stretch"] (defScope s_last_number) := ⟨rfl, rfl, rfl, by decide +kernel, rfl, by decide +kernel, by decide +kernel⟩
noncomputable def b_last_number : MS :=
  (sSeq (sAsg (eVar 0) (gTp [1, 2, 3, 4]))
    (sRet (eBin addD (eVar 2) (eBin mulD' (eBin subD (eVar 3) (eC (.int 1))) (eVar 4)))))
noncomputable def m_last_number : MF := fnM 1 5 b_last_number
theorem fn_last_number {a : Addr} {fd : FuncData} (F : Fun K "last_number" "last_number" s_last_number a fd) (T : Tx mg) : FnG P w K mg base 1 a fd ["stretch"] m_last_number := by
  have S := sc_last_number
  unfold m_last_number
  refine fng2 (k := 0) (b := b_last_number) F S rfl rfl (by decide) ?_
  intro cdv A outer s H gd hr
  exact (qs_cons (q_asg (q_var (pv 0)) (q_gtup (vs := [1, 2, 3, 4]) rfl (q_gcons (vs := [1, 2, 3, 4]) (i := 1) S.nd rfl (by first | exact Or.inl rfl | exact Or.inr rfl) (q_gcons (vs := [1, 2, 3, 4]) (i := 2) S.nd rfl (by first | exact Or.inl rfl | exact Or.inr rfl) (q_gcons (vs := [1, 2, 3, 4]) (i := 3) S.nd rfl (by first | exact Or.inl rfl | exact Or.inr rfl) (q_gcons (vs := [1, 2, 3, 4]) (i := 4) S.nd rfl (by first | exact Or.inl rfl | exact Or.inr rfl) q_gnil (by decide)) (by decide)) (by decide)) (by decide))))
      (qs_one (q_ret (q_bin od_add (q_var (pv 2)) (q_bin od_mul' (q_bin od_sub (q_var (pv 3)) q_int) (q_var (pv 4)))))))
theorem ok_last_number {a : Addr} {fd : FuncData} (F : Fun K "last_number" "last_number" s_last_number a fd) (M : mg "last_number" = some (.ref a)) (T : Tx mg) : Has P w K mg base "last_number" 1 ["stretch"] m_last_number :=
  ⟨a, fd, fn_last_number F T , M, F.kp, (F.binds (ps := ["stretch"]) fun _ _ _ _ _ _ us hl => match us, hl with | [_], _ => rfl)⟩
end
end Lw
set_option Elab.async false
set_option linter.all false
set_option maxRecDepth 100000
set_option maxHeartbeats 8000000
namespace Lw
open PySem PySem.Spec PyProof.Rows L2 DL
section
variable {P : Program} {w : World} {K : Frg} {mg : Str → Option Value} {base : Heap}
/-! ### is_stretch -/
abbrev s_is_stretch : Stmt := topS 8
abbrev N_is_stretch : List Str := ["thing", "word", "first", "many", "way"]
theorem sc_is_stretch : FnScope N_is_stretch ["thing"] (defScope s_is_stretch) := ⟨rfl, rfl, rfl, by decide +kernel, rfl, by decide +kernel, by decide +kernel⟩
noncomputable def b_is_stretch : MS :=
  (sSeq (sIf (bOr (bNot (bTru (eIs "tuple" (eVar 0)))) (bOf (eBinF neD (eCB (c1 lenD) (aCons (eVar 0) aNil)) (eC (.int 4))))) (sRet (eC (.bool false))) sNil)
    (sSeq (sAsg (eVar 0) (gTp [1, 2, 3, 4]))
    (sSeq (sIf (bOr (bNot (bTru (eCall m_is_word (aCons (eVar 1) aNil)))) (bOr (bNot (bTru (eCall m_is_whole (aCons (eVar 3) aNil)))) (bNot (bTru (eCall m_is_whole (aCons (eVar 4) aNil)))))) (sRet (eC (.bool false))) sNil)
    (sSeq (sIf (bOr (bOf (eBin ltD (eVar 3) (eC (.int 1)))) (bOr (bOf (eBin notinD (eVar 4) (eTup (aCons (eC (.int 1)) (aCons (eNeg (eC (.int 1))) aNil))))) (bNot (bTru (eCall m_is_from_to (aCons (eVar 2) (aCons (eC (.int 0)) (aCons (eC (.int 1000000000000000000)) aNil)))))))) (sRet (eC (.bool false))) sNil)
    (sRet (eCall m_is_from_to (aCons (eCall m_last_number (aCons (eVar 0) aNil)) (aCons (eC (.int 0)) (aCons (eC (.int 1000000000000000000)) aNil)))))))))
noncomputable def m_is_stretch : MF := fnM 1 5 b_is_stretch
theorem fn_is_stretch {a : Addr} {fd : FuncData} (F : Fun K "is_stretch" "is_stretch" s_is_stretch a fd) (T : Tx mg) (H_is_whole : Has P w K mg base "is_whole" 1 ["thing"] m_is_whole) (H_is_from_to : Has P w K mg base "is_from_to" 2 ["thing", "low", "high"] m_is_from_to) (H_is_word : Has P w K mg base "is_word" 1 ["thing"] m_is_word) (H_last_number : Has P w K mg base "last_number" 1 ["stretch"] m_last_number) : FnG P w K mg base 3 a fd ["thing"] m_is_stretch := by
  have S := sc_is_stretch
  unfold m_is_stretch
  refine fng2 (k := 2) (b := b_is_stretch) F S rfl rfl (by decide) ?_
  intro cdv A outer s H gd hr
  exact (qs_cons (q_if (PW.pt (q_tor (q_tnot (q_tru (q_isi rfl T.b_isinstance rfl T.b_tuple (by decide +kernel) (q_var (pv 0))))) (q_tor1 (q_tcmpF (od_ne (room64 hr)) (q_callB cd_len rfl T.b_len (by decide +kernel) (qa_cons (q_var (pv 0)) qa_nil)) q_int)))) (qs_one (q_ret q_bl)) qs_nil)
      (qs_cons (q_asg (q_var (pv 0)) (q_gtup (vs := [1, 2, 3, 4]) rfl (q_gcons (vs := [1, 2, 3, 4]) (i := 1) S.nd rfl (by first | exact Or.inl rfl | exact Or.inr rfl) (q_gcons (vs := [1, 2, 3, 4]) (i := 2) S.nd rfl (by first | exact Or.inl rfl | exact Or.inr rfl) (q_gcons (vs := [1, 2, 3, 4]) (i := 3) S.nd rfl (by first | exact Or.inl rfl | exact Or.inr rfl) (q_gcons (vs := [1, 2, 3, 4]) (i := 4) S.nd rfl (by first | exact Or.inl rfl | exact Or.inr rfl) q_gnil (by decide)) (by decide)) (by decide)) (by decide))))
      (qs_cons (q_if (PW.pt (q_tor (q_tnot (q_tru (q_callH (H_is_word.up (by decide)) gd hr rfl (qa_cons (q_var (pv 1)) qa_nil)))) (q_tor (q_tnot (q_tru (q_callH (H_is_whole.up (by decide)) gd hr rfl (qa_cons (q_var (pv 3)) qa_nil)))) (q_tor1 (q_tnot (q_tru (q_callH (H_is_whole.up (by decide)) gd hr rfl (qa_cons (q_var (pv 4)) qa_nil)))))))) (qs_one (q_ret q_bl)) qs_nil)
      (qs_cons (q_if (PW.pt (q_tor (q_tcmp od_lt (q_var (pv 3)) q_int) (q_tor (q_tcmp od_notin (q_var (pv 4)) (q_tup (qa_cons q_int (qa_cons (q_neg q_int) qa_nil)))) (q_tor1 (q_tnot (q_tru (q_callH (H_is_from_to.up (by decide)) gd hr rfl (qa_cons (q_var (pv 2)) (qa_cons q_int (qa_cons (q_gint rfl T.g_LAST_NUMBER) qa_nil)))))))))) (qs_one (q_ret q_bl)) qs_nil)
      (qs_one (q_ret (q_callH (H_is_from_to.up (by decide)) gd hr rfl (qa_cons (q_callH (H_last_number.up (by decide)) gd hr rfl (qa_cons (q_var (pv 0)) qa_nil)) (qa_cons q_int (qa_cons (q_gint rfl T.g_LAST_NUMBER) qa_nil))))))))))
theorem ok_is_stretch {a : Addr} {fd : FuncData} (F : Fun K "is_stretch" "is_stretch" s_is_stretch a fd) (M : mg "is_stretch" = some (.ref a)) (T : Tx mg) (H_is_whole : Has P w K mg base "is_whole" 1 ["thing"] m_is_whole) (H_is_from_to : Has P w K mg base "is_from_to" 2 ["thing", "low", "high"] m_is_from_to) (H_is_word : Has P w K mg base "is_word" 1 ["thing"] m_is_word) (H_last_number : Has P w K mg base "last_number" 1 ["stretch"] m_last_number) : Has P w K mg base "is_stretch" 3 ["thing"] m_is_stretch :=
  ⟨a, fd, fn_is_stretch F T H_is_whole H_is_from_to H_is_word H_last_number, M, F.kp, (F.binds (ps := ["thing"]) fun _ _ _ _ _ _ us hl => match us, hl with | [_], _ => rfl)⟩
end
end Lw
set_option Elab.async false
set_option linter.all false
set_option maxRecDepth 100000
set_option maxHeartbeats 8000000
namespace Lw
open PySem PySem.Spec PyProof.Rows L2 DL
section
variable {P : Program} {w : World} {K : Frg} {mg : Str → Option Value} {base : Heap}
/-! ### is_row -/
abbrev s_is_row : Stmt := topS 9
abbrev N_is_row : List Str := ["thing", "part"]
theorem sc_is_row : FnScope N_is_row ["thing"] (defScope s_is_row) := ⟨rfl, rfl, rfl, by decide +kernel, rfl, by decide +kernel, by decide +kernel⟩
noncomputable def b_is_row : MS :=
  (sRet (eAnd (eIs2 "list" "tuple" (eVar 0)) (eCB (c1 allD) (aCons (eFrz (eLc (iAny (eVar 0)) (gNm 1) cYes (eCall m_is_stretch (aCons (eVar 1) aNil)) [1])) aNil))))
noncomputable def m_is_row : MF := fnM 1 2 b_is_row
theorem fn_is_row {a : Addr} {fd : FuncData} (F : Fun K "is_row" "is_row" s_is_row a fd) (T : Tx mg) (H_is_stretch : Has P w K mg base "is_stretch" 3 ["thing"] m_is_stretch) : FnG P w K mg base 4 a fd ["thing"] m_is_row := by
  have S := sc_is_row
  unfold m_is_row
  refine fng2 (k := 3) (b := b_is_row) F S rfl rfl (by decide) ?_
  intro cdv A outer s H gd hr
  exact (qs_one (q_ret (q_and (q_isi2 rfl T.b_isinstance rfl T.b_list (by decide +kernel) rfl T.b_tuple (by decide +kernel) (q_var (pv 0))) (q_one (q_callB (cd_all rfl) rfl T.b_all (by decide +kernel) (qa_cons (q_frz (q_lc (own := [("part", 1)]) (g := (gNm 1)) (c := cYes) (f := (eCall m_is_stretch (aCons (eVar 1) aNil))) rfl S.nd (q_iany (q_var (pv 0))) (blkOk_by (N := N_is_row) (sc := defScope s_is_row) (by decide +kernel)) (fun _ _ _ _ _ => (q_gname (vs := [1]) (i := 1) S.nd rfl (by first | exact Or.inl rfl | exact Or.inr rfl) (by decide))) (fun _ _ _ _ _ => q_tsnil) (fun _ _ _ _ _ => (q_callH (H_is_stretch.up (by decide)) gd hr rfl (qa_cons (q_var (pv 1)) qa_nil))))) qa_nil))))))
theorem ok_is_row {a : Addr} {fd : FuncData} (F : Fun K "is_row" "is_row" s_is_row a fd) (M : mg "is_row" = some (.ref a)) (T : Tx mg) (H_is_stretch : Has P w K mg base "is_stretch" 3 ["thing"] m_is_stretch) : Has P w K mg base "is_row" 4 ["thing"] m_is_row :=
  ⟨a, fd, fn_is_row F T H_is_stretch, M, F.kp, (F.binds (ps := ["thing"]) fun _ _ _ _ _ _ us hl => match us, hl with | [_], _ => rfl)⟩
end
end Lw
set_option Elab.async false
set_option linter.all false
set_option maxRecDepth 100000
set_option maxHeartbeats 8000000
namespace Lw
open PySem PySem.Spec PyProof.Rows L2 DL
section
variable {P : Program} {w : World} {K : Frg} {mg : Str → Option Value} {base : Heap}
/-! ### _goes_on -/
abbrev s__goes_on : Stmt := topS 12
abbrev N__goes_on : List Str := ["ahead", "stretch", "way"]
theorem sc__goes_on : FnScope N__goes_on ["ahead", "stretch"] (defScope s__goes_on) := ⟨rfl, rfl, rfl, by decide +kernel, rfl, by decide +kernel, by decide +kernel⟩
noncomputable def b__goes_on : MS :=
  (sSeq (sSet 2 (eBin ixD (eVar 0) (eC (.int 3))))
    (sRet (eBinF eqD (eTup (aCons (eBin ixD (eVar 1) (eC (.int 0))) (aCons (eBin ixD (eVar 1) (eC (.int 1))) (aCons (eBin ixD (eVar 1) (eC (.int 3))) aNil)))) (eTup (aCons (eBin ixD (eVar 0) (eC (.int 0))) (aCons (eBin addD (eCall m_last_number (aCons (eVar 0) aNil)) (eVar 2)) (aCons (eVar 2) aNil)))))))
noncomputable def m__goes_on : MF := fnM 2 3 b__goes_on
theorem fn__goes_on {a : Addr} {fd : FuncData} (F : Fun K "_goes_on" "_goes_on" s__goes_on a fd) (T : Tx mg) (H_last_number : Has P w K mg base "last_number" 1 ["stretch"] m_last_number) : FnG P w K mg base 2 a fd ["ahead", "stretch"] m__goes_on := by
  have S := sc__goes_on
  unfold m__goes_on
  refine fng2 (k := 1) (b := b__goes_on) F S rfl rfl (by decide) ?_
  intro cdv A outer s H gd hr
  exact (qs_cons (q_set (i := 2) S.nd rfl (by first | exact Or.inl rfl | exact Or.inr rfl) (q_ix (q_var (pv 0)) q_int))
      (qs_one (q_ret (q_cmpF (od_eq (room64 hr)) (q_tup (qa_cons (q_ix (q_var (pv 1)) q_int) (qa_cons (q_ix (q_var (pv 1)) q_int) (qa_cons (q_ix (q_var (pv 1)) q_int) qa_nil)))) (q_tup (qa_cons (q_ix (q_var (pv 0)) q_int) (qa_cons (q_bin od_add (q_callH (H_last_number.up (by decide)) gd hr rfl (qa_cons (q_var (pv 0)) qa_nil)) (q_var (pv 2))) (qa_cons (q_var (pv 2)) qa_nil))))))))
theorem ok__goes_on {a : Addr} {fd : FuncData} (F : Fun K "_goes_on" "_goes_on" s__goes_on a fd) (M : mg "_goes_on" = some (.ref a)) (T : Tx mg) (H_last_number : Has P w K mg base "last_number" 1 ["stretch"] m_last_number) : Has P w K mg base "_goes_on" 2 ["ahead", "stretch"] m__goes_on :=
  ⟨a, fd, fn__goes_on F T H_last_number, M, F.kp, (F.binds (ps := ["ahead", "stretch"]) fun _ _ _ _ _ _ us hl => match us, hl with | [_, _], _ => rfl)⟩
end
end Lw
set_option Elab.async false
set_option linter.all false
set_option maxRecDepth 100000
set_option maxHeartbeats 8000000
namespace Lw
open PySem PySem.Spec PyProof.Rows L2 DL
section
variable {P : Program} {w : World} {K : Frg} {mg : Str → Option Value} {base : Heap}
/-! ### joined -/
abbrev s_joined : Stmt := topS 11
abbrev N_joined : List Str := ["row", "out", "stretch", "word", "first", "many", "way"]
theorem sc_joined : FnScope N_joined ["row"] (defScope s_joined) := ⟨rfl, rfl, rfl, by decide +kernel, rfl, by decide +kernel, by decide +kernel⟩
noncomputable def b_joined : MS :=
  (sSeq (sSet 1 (eLstL aNil))
    (sSeq (sFor (iAny (eVar 0)) (gNm 2) (sIf (bAnd (bTru (eVar 1)) (bTru (eCall m__goes_on (aCons (eBin ixD (eVar 1) (eNeg (eC (.int 1)))) (aCons (eVar 2) aNil))))) (sSeq (sAsg (eBin ixD (eVar 1) (eNeg (eC (.int 1)))) (gTp [3, 4, 5, 6]))
    (sSetIx (eTup (aCons (eVar 3) (aCons (eVar 4) (aCons (eBin addD (eVar 5) (eBin ixD (eVar 2) (eC (.int 2)))) (aCons (eVar 6) aNil))))) (eVar 1) (eNeg (eC (.int 1))))) (sEx (eApp (eVar 1) (eVar 2)))))
    (sRet (eVar 1))))
noncomputable def m_joined : MF := fnM 1 7 b_joined
theorem fn_joined {a : Addr} {fd : FuncData} (F : Fun K "joined" "joined" s_joined a fd) (T : Tx mg) (H__goes_on : Has P w K mg base "_goes_on" 2 ["ahead", "stretch"] m__goes_on) : FnG P w K mg base 3 a fd ["row"] m_joined := by
  have S := sc_joined
  unfold m_joined
  refine fng2 (k := 2) (b := b_joined) F S rfl rfl (by decide) ?_
  intro cdv A outer s H gd hr
  exact (qs_cons (q_set (i := 1) S.nd rfl (by first | exact Or.inl rfl | exact Or.inr rfl) (q_lstL qa_nil))
      (qs_cons (q_for PassesOwn.never rfl (q_iany (q_var (pv 0))) (q_gname (vs := [2]) (i := 2) S.nd rfl (by first | exact Or.inl rfl | exact Or.inr rfl) (by decide)) (qs_one (q_if (PW.pt (q_tand (q_tru (q_var (pv 1))) (q_tand1 (q_tru (q_callH (H__goes_on.up (by decide)) gd hr rfl (qa_cons (q_ix (q_var (pv 1)) (q_neg q_int)) (qa_cons (q_var (pv 2)) qa_nil))))))) (qs_cons (q_asg (q_ix (q_var (pv 1)) (q_neg q_int)) (q_gtup (vs := [3, 4, 5, 6]) rfl (q_gcons (vs := [3, 4, 5, 6]) (i := 3) S.nd rfl (by first | exact Or.inl rfl | exact Or.inr rfl) (q_gcons (vs := [3, 4, 5, 6]) (i := 4) S.nd rfl (by first | exact Or.inl rfl | exact Or.inr rfl) (q_gcons (vs := [3, 4, 5, 6]) (i := 5) S.nd rfl (by first | exact Or.inl rfl | exact Or.inr rfl) (q_gcons (vs := [3, 4, 5, 6]) (i := 6) S.nd rfl (by first | exact Or.inl rfl | exact Or.inr rfl) q_gnil (by decide)) (by decide)) (by decide)) (by decide))))
      (qs_one (q_setIx (q_var (pv 1)) (q_neg q_int) (q_tup (qa_cons (q_var (pv 3)) (qa_cons (q_var (pv 4)) (qa_cons (q_bin od_add (q_var (pv 5)) (q_ix (q_var (pv 2)) q_int)) (qa_cons (q_var (pv 6)) qa_nil)))))))) (qs_one (q_expr (q_app (q_var (pv 1)) (q_var (pv 2))))))))
      (qs_one (q_ret (q_var (pv 1))))))
theorem ok_joined {a : Addr} {fd : FuncData} (F : Fun K "joined" "joined" s_joined a fd) (M : mg "joined" = some (.ref a)) (T : Tx mg) (H__goes_on : Has P w K mg base "_goes_on" 2 ["ahead", "stretch"] m__goes_on) : Has P w K mg base "joined" 3 ["row"] m_joined :=
  ⟨a, fd, fn_joined F T H__goes_on, M, F.kp, (F.binds (ps := ["row"]) fun _ _ _ _ _ _ us hl => match us, hl with | [_], _ => rfl)⟩
end
end Lw
set_option Elab.async false
set_option linter.all false
set_option maxRecDepth 100000
set_option maxHeartbeats 8000000
namespace Lw
open PySem PySem.Spec PyProof.Rows L2 DL
section
variable {P : Program} {w : World} {K : Frg} {mg : Str → Option Value} {base : Heap}
/-! ### yards -/
abbrev s_yards : Stmt := topS 13
abbrev N_yards : List Str := ["row", "stretch"]
theorem sc_yards : FnScope N_yards ["row"] (defScope s_yards) := ⟨rfl, rfl, rfl, by decide +kernel, rfl, by decide +kernel, by decide +kernel⟩
noncomputable def b_yards : MS :=
  (sRet (eCB (c1 sumD) (aCons (eFrz (eLc (iAny (eVar 0)) (gNm 1) cYes (eBin ixD (eVar 1) (eC (.int 2))) [1])) aNil)))
noncomputable def m_yards : MF := fnM 1 2 b_yards
theorem fn_yards {a : Addr} {fd : FuncData} (F : Fun K "yards" "yards" s_yards a fd) (T : Tx mg) : FnG P w K mg base 1 a fd ["row"] m_yards := by
  have S := sc_yards
  unfold m_yards
  refine fng2 (k := 0) (b := b_yards) F S rfl rfl (by decide) ?_
  intro cdv A outer s H gd hr
  exact (qs_one (q_ret (q_callB (cd_sum rfl) rfl T.b_sum (by decide +kernel) (qa_cons (q_frz (q_lc (own := [("stretch", 1)]) (g := (gNm 1)) (c := cYes) (f := (eBin ixD (eVar 1) (eC (.int 2)))) rfl S.nd (q_iany (q_var (pv 0))) (blkOk_by (N := N_yards) (sc := defScope s_yards) (by decide +kernel)) (fun _ _ _ _ _ => (q_gname (vs := [1]) (i := 1) S.nd rfl (by first | exact Or.inl rfl | exact Or.inr rfl) (by decide))) (fun _ _ _ _ _ => q_tsnil) (fun _ _ _ _ _ => (q_ix (q_var (pv 1)) q_int)))) qa_nil))))
theorem ok_yards {a : Addr} {fd : FuncData} (F : Fun K "yards" "yards" s_yards a fd) (M : mg "yards" = some (.ref a)) (T : Tx mg) : Has P w K mg base "yards" 1 ["row"] m_yards :=
  ⟨a, fd, fn_yards F T , M, F.kp, (F.binds (ps := ["row"]) fun _ _ _ _ _ _ us hl => match us, hl with | [_], _ => rfl)⟩
end
end Lw
set_option Elab.async false
set_option linter.all false
set_option maxRecDepth 100000
set_option maxHeartbeats 8000000
namespace Lw
open PySem PySem.Spec PyProof.Rows L2 DL
section
variable {P : Program} {w : World} {K : Frg} {mg : Str → Option Value} {base : Heap}
/-! ### about -/
abbrev s_about : Stmt := topS 15
abbrev N_about : List Str := ["stretch", "word", "_", "many", "way"]
theorem sc_about : FnScope N_about ["stretch"] (defScope s_about) := ⟨rfl, rfl, rfl, by decide +kernel, rfl, by decide +kernel, by decide +kernel⟩
noncomputable def b_about : MS :=
  (sSeq (sAsg (eVar 0) (gTp [1, 2, 3, 4]))
    (sRet (eTup (aCons (eVar 1) (aCons (eCall m_last_number (aCons (eVar 0) aNil)) (aCons (eVar 3) (aCons (eNeg (eVar 4)) aNil)))))))
noncomputable def m_about : MF := fnM 1 5 b_about
theorem fn_about {a : Addr} {fd : FuncData} (F : Fun K "about" "about" s_about a fd) (T : Tx mg) (H_last_number : Has P w K mg base "last_number" 1 ["stretch"] m_last_number) : FnG P w K mg base 2 a fd ["stretch"] m_about := by
  have S := sc_about
  unfold m_about
  refine fng2 (k := 1) (b := b_about) F S rfl rfl (by decide) ?_
  intro cdv A outer s H gd hr
  exact (qs_cons (q_asg (q_var (pv 0)) (q_gtup (vs := [1, 2, 3, 4]) rfl (q_gcons (vs := [1, 2, 3, 4]) (i := 1) S.nd rfl (by first | exact Or.inl rfl | exact Or.inr rfl) (q_gcons (vs := [1, 2, 3, 4]) (i := 2) S.nd rfl (by first | exact Or.inl rfl | exact Or.inr rfl) (q_gcons (vs := [1, 2, 3, 4]) (i := 3) S.nd rfl (by first | exact Or.inl rfl | exact Or.inr rfl) (q_gcons (vs := [1, 2, 3, 4]) (i := 4) S.nd rfl (by first | exact Or.inl rfl | exact Or.inr rfl) q_gnil (by decide)) (by decide)) (by decide)) (by decide))))
      (qs_one (q_ret (q_tup (qa_cons (q_var (pv 1)) (qa_cons (q_callH (H_last_number.up (by decide)) gd hr rfl (qa_cons (q_var (pv 0)) qa_nil)) (qa_cons (q_var (pv 3)) (qa_cons (q_neg (q_var (pv 4))) qa_nil))))))))
theorem ok_about {a : Addr} {fd : FuncData} (F : Fun K "about" "about" s_about a fd) (M : mg "about" = some (.ref a)) (T : Tx mg) (H_last_number : Has P w K mg base "last_number" 1 ["stretch"] m_last_number) : Has P w K mg base "about" 2 ["stretch"] m_about :=
  ⟨a, fd, fn_about F T H_last_number, M, F.kp, (F.binds (ps := ["stretch"]) fun _ _ _ _ _ _ us hl => match us, hl with | [_], _ => rfl)⟩
end
end Lw
set_option Elab.async false
set_option linter.all false
set_option maxRecDepth 100000
set_option maxHeartbeats 8000000
namespace Lw
open PySem PySem.Spec PyProof.Rows L2 DL
section
variable {P : Program} {w : World} {K : Frg} {mg : Str → Option Value} {base : Heap}
/-! ### turned -/
abbrev s_turned : Stmt := topS 14
abbrev N_turned : List Str := ["row", "stretch"]
theorem sc_turned : FnScope N_turned ["row"] (defScope s_turned) := ⟨rfl, rfl, rfl, by decide +kernel, rfl, by decide +kernel, by decide +kernel⟩
noncomputable def b_turned : MS :=
  (sRet (eCall m_joined (aCons (eFrz (eLc (iRv (eVar 0)) (gNm 1) cYes (eCall m_about (aCons (eVar 1) aNil)) [1])) aNil)))
noncomputable def m_turned : MF := fnM 1 2 b_turned
theorem fn_turned {a : Addr} {fd : FuncData} (F : Fun K "turned" "turned" s_turned a fd) (T : Tx mg) (H_joined : Has P w K mg base "joined" 3 ["row"] m_joined) (H_about : Has P w K mg base "about" 2 ["stretch"] m_about) : FnG P w K mg base 4 a fd ["row"] m_turned := by
  have S := sc_turned
  unfold m_turned
  refine fng2 (k := 3) (b := b_turned) F S rfl rfl (by decide) ?_
  intro cdv A outer s H gd hr
  exact (qs_one (q_ret (q_callH (H_joined.up (by decide)) gd hr rfl (qa_cons (q_frz (q_lc (own := [("stretch", 1)]) (g := (gNm 1)) (c := cYes) (f := (eCall m_about (aCons (eVar 1) aNil))) rfl S.nd (q_irev rfl T.b_reversed (q_var (pv 0))) (blkOk_by (N := N_turned) (sc := defScope s_turned) (by decide +kernel)) (fun _ _ _ _ _ => (q_gname (vs := [1]) (i := 1) S.nd rfl (by first | exact Or.inl rfl | exact Or.inr rfl) (by decide))) (fun _ _ _ _ _ => q_tsnil) (fun _ _ _ _ _ => (q_callH (H_about.up (by decide)) gd hr rfl (qa_cons (q_var (pv 1)) qa_nil))))) qa_nil))))
theorem ok_turned {a : Addr} {fd : FuncData} (F : Fun K "turned" "turned" s_turned a fd) (M : mg "turned" = some (.ref a)) (T : Tx mg) (H_joined : Has P w K mg base "joined" 3 ["row"] m_joined) (H_about : Has P w K mg base "about" 2 ["stretch"] m_about) : Has P w K mg base "turned" 4 ["row"] m_turned :=
  ⟨a, fd, fn_turned F T H_joined H_about, M, F.kp, (F.binds (ps := ["row"]) fun _ _ _ _ _ _ us hl => match us, hl with | [_], _ => rfl)⟩
end
end Lw
set_option Elab.async false
set_option linter.all false
set_option maxRecDepth 100000
set_option maxHeartbeats 8000000
namespace Lw
open PySem PySem.Spec PyProof.Rows L2 DL
section
variable {P : Program} {w : World} {K : Frg} {mg : Str → Option Value} {base : Heap}
/-! ### _law_pen -/
abbrev s__law_pen : Stmt := topS 17
abbrev N__law_pen : List Str := ["script"]
theorem sc__law_pen : FnScope N__law_pen ["script"] (defScope s__law_pen) := ⟨rfl, rfl, rfl, by decide +kernel, rfl, by decide +kernel, by decide +kernel⟩
noncomputable def b__law_pen : MS :=
  (sRet (eDct [((Str.ofString "cells"), (eCB (c1 listD) (aCons (eSlF (eVar 0) oNo (oYes (eC (.int 63)))) aNil))), ((Str.ofString "turn"), (eC (.int 0))), ((Str.ofString "left"), (eC (.int 0)))]))
noncomputable def m__law_pen : MF := fnM 1 1 b__law_pen
theorem fn__law_pen {a : Addr} {fd : FuncData} (F : Fun K "_law_pen" "_law_pen" s__law_pen a fd) (T : Tx mg) : FnG P w K mg base 1 a fd ["script"] m__law_pen := by
  have S := sc__law_pen
  unfold m__law_pen
  refine fng2 (k := 0) (b := b__law_pen) F S rfl rfl (by decide) ?_
  intro cdv A outer s H gd hr
  exact (qs_one (q_ret (q_dct (ps := [((Str.ofString "cells"), (eCB (c1 listD) (aCons (eSlF (eVar 0) oNo (oYes (eC (.int 63)))) aNil))), ((Str.ofString "turn"), (eC (.int 0))), ((Str.ofString "left"), (eC (.int 0)))]) (pps_cons pe_str (q_callTy cd_list rfl T.b_list (by decide +kernel) (qa_cons (q_sliceF (q_var (pv 0)) q_no (q_yes q_int)) qa_nil)) (pps_cons pe_str q_int (pps_cons pe_str q_int pps_nil))))))
theorem ok__law_pen {a : Addr} {fd : FuncData} (F : Fun K "_law_pen" "_law_pen" s__law_pen a fd) (M : mg "_law_pen" = some (.ref a)) (T : Tx mg) : Has P w K mg base "_law_pen" 1 ["script"] m__law_pen :=
  ⟨a, fd, fn__law_pen F T , M, F.kp, (F.binds (ps := ["script"]) fun _ _ _ _ _ _ us hl => match us, hl with | [_], _ => rfl)⟩
end
end Lw
set_option Elab.async false
set_option linter.all false
set_option maxRecDepth 100000
set_option maxHeartbeats 8000000
namespace Lw
open PySem PySem.Spec PyProof.Rows L2 DL
section
variable {P : Program} {w : World} {K : Frg} {mg : Str → Option Value} {base : Heap}
/-! ### _law_draw -/
abbrev s__law_draw : Stmt := topS 18
abbrev N__law_draw : List Str := ["pen", "many", "turn", "cell", "primes", "prime", "drawn", "digit"]
theorem sc__law_draw : FnScope N__law_draw ["pen", "many"] (defScope s__law_draw) := ⟨rfl, rfl, rfl, by decide +kernel, rfl, by decide +kernel, by decide +kernel⟩
noncomputable def b__law_draw : MS :=
  (sSeq (sIf (bOf (eBin gtD (eGet (eVar 0) (eC (.str "left"))) (eC (.int 0)))) (sSeq (sSet 7 (eBin modD (eGet (eVar 0) (eC (.str "left"))) (eVar 1)))
    (sSeq (sPut (eBin fdivD (eGet (eVar 0) (eC (.str "left"))) (eVar 1)) (eVar 0) (eC (.str "left")))
    (sRet (eVar 7)))) sNil)
    (sSeq (sSet 2 (eGet (eVar 0) (eC (.str "turn"))))
    (sSeq (sPut (eBin addD (eVar 2) (eC (.int 1))) (eVar 0) (eC (.str "turn")))
    (sSeq (sSet 3 (eBin addD (eBin mulD' (eC (.int 31)) (eVar 2)) (eC (.int 11))))
    (sSeq (sIf (bOf (eBinF neD (eGet (eVar 0) (eC (.str "cells"))) (eLst aNil))) (sSet 3 (eBin ixD (eGet (eVar 0) (eC (.str "cells"))) (eBin modD (eVar 2) (eCB (c1 lenD) (aCons (eGet (eVar 0) (eC (.str "cells"))) aNil))))) sNil)
    (sSeq (sIf (bAnd (bOf (eBin ltD (eVar 2) (eCB (c1 lenD) (aCons (eGet (eVar 0) (eC (.str "cells"))) aNil)))) (bOf (eBin geD (eCB (c1 absD) (aCons (eVar 3) aNil)) (eBin powD (eC (.int 10)) (eC (.int 18)))))) (sSeq (sPut (eBin fdivD (eBin subD (eCB (c1 absD) (aCons (eVar 3) aNil)) (eBin powD (eC (.int 10)) (eC (.int 18)))) (eVar 1)) (eVar 0) (eC (.str "left")))
    (sRet (eBin modD (eBin subD (eCB (c1 absD) (aCons (eVar 3) aNil)) (eBin powD (eC (.int 10)) (eC (.int 18)))) (eVar 1)))) sNil)
    (sSeq (sSet 4 (eLst (aCons (eC (.int 2147483647)) (aCons (eC (.int 2147483629)) (aCons (eC (.int 2147483587)) (aCons (eC (.int 2147483579)) (aCons (eC (.int 2147483563)) aNil)))))))
    (sSeq (sSet 5 (eBin ixD (eVar 4) (eBin modD (eVar 2) (eC (.int 5)))))
    (sSeq (sSet 6 (eBin modD (eBin addD (eBin addD (eBin mulD' (eBin modD (eVar 3) (eVar 5)) (eC (.int 48271))) (eBin mulD' (eBin mulD' (eC (.int 39373)) (eVar 2)) (eVar 2))) (eC (.int 29))) (eVar 5)))
    (sSeq (sSet 6 (eBin modD (eBin mulD' (eVar 6) (eBin addD (eVar 6) (eC (.int 69621)))) (eBin ixD (eVar 4) (eBin modD (eBin addD (eVar 2) (eC (.int 2))) (eC (.int 5))))))
    (sRet (eBin modD (eBin fdivD (eBin modD (eBin mulD' (eVar 6) (eVar 6)) (eC (.int 2147483549))) (eC (.int 64))) (eVar 1)))))))))))))
noncomputable def m__law_draw : MF := fnM 2 8 b__law_draw
theorem fn__law_draw {a : Addr} {fd : FuncData} (F : Fun K "_law_draw" "_law_draw" s__law_draw a fd) (T : Tx mg) : FnG P w K mg base 1 a fd ["pen", "many"] m__law_draw := by
  have S := sc__law_draw
  unfold m__law_draw
  refine fng2 (k := 0) (b := b__law_draw) F S rfl rfl (by decide) ?_
  intro cdv A outer s H gd hr
  exact (qs_cons (q_if (q_tcmp od_gt (q_get (room1 hr) (q_var (pv 0)) q_str) q_int) (qs_cons (q_set (i := 7) S.nd rfl (by first | exact Or.inl rfl | exact Or.inr rfl) (q_bin od_mod (q_get (room1 hr) (q_var (pv 0)) q_str) (q_var (pv 1))))
      (qs_cons (q_put (room1 hr) (q_var (pv 0)) q_str (q_bin od_fdiv (q_get (room1 hr) (q_var (pv 0)) q_str) (q_var (pv 1))))
      (qs_one (q_ret (q_var (pv 7)))))) qs_nil)
      (qs_cons (q_set (i := 2) S.nd rfl (by first | exact Or.inl rfl | exact Or.inr rfl) (q_get (room1 hr) (q_var (pv 0)) q_str))
      (qs_cons (q_put (room1 hr) (q_var (pv 0)) q_str (q_bin od_add (q_var (pv 2)) q_int))
      (qs_cons (q_set (i := 3) S.nd rfl (by first | exact Or.inl rfl | exact Or.inr rfl) (q_bin od_add (q_bin od_mul' q_int (q_var (pv 2))) q_int))
      (qs_cons (q_if (q_tcmpF (od_ne (room64 hr)) (q_get (room1 hr) (q_var (pv 0)) q_str) (q_lst qa_nil)) (qs_one (q_set (i := 3) S.nd rfl (by first | exact Or.inl rfl | exact Or.inr rfl) (q_ix (q_get (room1 hr) (q_var (pv 0)) q_str) (q_bin od_mod (q_var (pv 2)) (q_callB cd_len rfl T.b_len (by decide +kernel) (qa_cons (q_get (room1 hr) (q_var (pv 0)) q_str) qa_nil)))))) qs_nil)
      (qs_cons (q_if (PW.pt (q_tand (q_tcmp od_lt (q_var (pv 2)) (q_callB cd_len rfl T.b_len (by decide +kernel) (qa_cons (q_get (room1 hr) (q_var (pv 0)) q_str) qa_nil))) (q_tand1 (q_tcmp od_ge (q_callB cd_abs rfl T.b_abs (by decide +kernel) (qa_cons (q_var (pv 3)) qa_nil)) (q_bin od_pow q_int q_int))))) (qs_cons (q_put (room1 hr) (q_var (pv 0)) q_str (q_bin od_fdiv (q_bin od_sub (q_callB cd_abs rfl T.b_abs (by decide +kernel) (qa_cons (q_var (pv 3)) qa_nil)) (q_bin od_pow q_int q_int)) (q_var (pv 1))))
      (qs_one (q_ret (q_bin od_mod (q_bin od_sub (q_callB cd_abs rfl T.b_abs (by decide +kernel) (qa_cons (q_var (pv 3)) qa_nil)) (q_bin od_pow q_int q_int)) (q_var (pv 1)))))) qs_nil)
      (qs_cons (q_set (i := 4) S.nd rfl (by first | exact Or.inl rfl | exact Or.inr rfl) (q_lst (qa_cons q_int (qa_cons q_int (qa_cons q_int (qa_cons q_int (qa_cons q_int qa_nil)))))))
      (qs_cons (q_set (i := 5) S.nd rfl (by first | exact Or.inl rfl | exact Or.inr rfl) (q_ix (q_var (pv 4)) (q_bin od_mod (q_var (pv 2)) q_int)))
      (qs_cons (q_set (i := 6) S.nd rfl (by first | exact Or.inl rfl | exact Or.inr rfl) (q_bin od_mod (q_bin od_add (q_bin od_add (q_bin od_mul' (q_bin od_mod (q_var (pv 3)) (q_var (pv 5))) q_int) (q_bin od_mul' (q_bin od_mul' q_int (q_var (pv 2))) (q_var (pv 2)))) q_int) (q_var (pv 5))))
      (qs_cons (q_set (i := 6) S.nd rfl (by first | exact Or.inl rfl | exact Or.inr rfl) (q_bin od_mod (q_bin od_mul' (q_var (pv 6)) (q_bin od_add (q_var (pv 6)) q_int)) (q_ix (q_var (pv 4)) (q_bin od_mod (q_bin od_add (q_var (pv 2)) q_int) q_int))))
      (qs_one (q_ret (q_bin od_mod (q_bin od_fdiv (q_bin od_mod (q_bin od_mul' (q_var (pv 6)) (q_var (pv 6))) q_int) q_int) (q_var (pv 1)))))))))))))))
theorem ok__law_draw {a : Addr} {fd : FuncData} (F : Fun K "_law_draw" "_law_draw" s__law_draw a fd) (M : mg "_law_draw" = some (.ref a)) (T : Tx mg) : Has P w K mg base "_law_draw" 1 ["pen", "many"] m__law_draw :=
  ⟨a, fd, fn__law_draw F T , M, F.kp, (F.binds (ps := ["pen", "many"]) fun _ _ _ _ _ _ us hl => match us, hl with | [_, _], _ => rfl)⟩
end
end Lw
set_option Elab.async false
set_option linter.all false
set_option maxRecDepth 100000
set_option maxHeartbeats 8000000
namespace Lw
open PySem PySem.Spec PyProof.Rows L2 DL
section
variable {P : Program} {w : World} {K : Frg} {mg : Str → Option Value} {base : Heap}
/-! ### _law_pick -/
abbrev s__law_pick : Stmt := topS 19
abbrev N__law_pick : List Str := ["pen", "some"]
theorem sc__law_pick : FnScope N__law_pick ["pen", "some"] (defScope s__law_pick) := ⟨rfl, rfl, rfl, by decide +kernel, rfl, by decide +kernel, by decide +kernel⟩
noncomputable def b__law_pick : MS :=
  (sRet (eBin ixD (eVar 1) (eCall m__law_draw (aCons (eVar 0) (aCons (eCB (c1 lenD) (aCons (eVar 1) aNil)) aNil)))))
noncomputable def m__law_pick : MF := fnM 2 2 b__law_pick
theorem fn__law_pick {a : Addr} {fd : FuncData} (F : Fun K "_law_pick" "_law_pick" s__law_pick a fd) (T : Tx mg) (H__law_draw : Has P w K mg base "_law_draw" 1 ["pen", "many"] m__law_draw) : FnG P w K mg base 2 a fd ["pen", "some"] m__law_pick := by
  have S := sc__law_pick
  unfold m__law_pick
  refine fng2 (k := 1) (b := b__law_pick) F S rfl rfl (by decide) ?_
  intro cdv A outer s H gd hr
  exact (qs_one (q_ret (q_ix (q_var (pv 1)) (q_callH (H__law_draw.up (by decide)) gd hr rfl (qa_cons (q_var (pv 0)) (qa_cons (q_callB cd_len rfl T.b_len (by decide +kernel) (qa_cons (q_var (pv 1)) qa_nil)) qa_nil))))))
theorem ok__law_pick {a : Addr} {fd : FuncData} (F : Fun K "_law_pick" "_law_pick" s__law_pick a fd) (M : mg "_law_pick" = some (.ref a)) (T : Tx mg) (H__law_draw : Has P w K mg base "_law_draw" 1 ["pen", "many"] m__law_draw) : Has P w K mg base "_law_pick" 2 ["pen", "some"] m__law_pick :=
  ⟨a, fd, fn__law_pick F T H__law_draw, M, F.kp, (F.binds (ps := ["pen", "some"]) fun _ _ _ _ _ _ us hl => match us, hl with | [_, _], _ => rfl)⟩
end
end Lw
set_option Elab.async false
set_option linter.all false
set_option maxRecDepth 100000
set_option maxHeartbeats 8000000
namespace Lw
open PySem PySem.Spec PyProof.Rows L2 DL
section
variable {P : Program} {w : World} {K : Frg} {mg : Str → Option Value} {base : Heap}
/-! ### _law_great -/
abbrev s__law_great : Stmt := topS 20
abbrev N__law_great : List Str := ["pen", "figures", "found", "k"]
theorem sc__law_great : FnScope N__law_great ["pen", "figures"] (defScope s__law_great) := ⟨rfl, rfl, rfl, by decide +kernel, rfl, by decide +kernel, by decide +kernel⟩
noncomputable def b__law_great : MS :=
  (sSeq (sSet 2 (eC (.int 0)))
    (sSeq (sFor (iRg1 (eVar 1)) (gNm 3) (sSet 2 (eBin addD (eBin mulD' (eC (.int 10)) (eVar 2)) (eCall m__law_draw (aCons (eVar 0) (aCons (eC (.int 10)) aNil))))))
    (sRet (eVar 2))))
noncomputable def m__law_great : MF := fnM 2 4 b__law_great
theorem fn__law_great {a : Addr} {fd : FuncData} (F : Fun K "_law_great" "_law_great" s__law_great a fd) (T : Tx mg) (H__law_draw : Has P w K mg base "_law_draw" 1 ["pen", "many"] m__law_draw) : FnG P w K mg base 2 a fd ["pen", "figures"] m__law_great := by
  have S := sc__law_great
  unfold m__law_great
  refine fng2 (k := 1) (b := b__law_great) F S rfl rfl (by decide) ?_
  intro cdv A outer s H gd hr
  exact (qs_cons (q_set (i := 2) S.nd rfl (by first | exact Or.inl rfl | exact Or.inr rfl) q_int)
      (qs_cons (q_for PassesOwn.never rfl (q_irng1 rfl T.b_range (q_var (pv 1))) (q_gname (vs := [3]) (i := 3) S.nd rfl (by first | exact Or.inl rfl | exact Or.inr rfl) (by decide)) (qs_one (q_set (i := 2) S.nd rfl (by first | exact Or.inl rfl | exact Or.inr rfl) (q_bin od_add (q_bin od_mul' q_int (q_var (pv 2))) (q_callH (H__law_draw.up (by decide)) gd hr rfl (qa_cons (q_var (pv 0)) (qa_cons q_int qa_nil)))))))
      (qs_one (q_ret (q_var (pv 2))))))
theorem ok__law_great {a : Addr} {fd : FuncData} (F : Fun K "_law_great" "_law_great" s__law_great a fd) (M : mg "_law_great" = some (.ref a)) (T : Tx mg) (H__law_draw : Has P w K mg base "_law_draw" 1 ["pen", "many"] m__law_draw) : Has P w K mg base "_law_great" 2 ["pen", "figures"] m__law_great :=
  ⟨a, fd, fn__law_great F T H__law_draw, M, F.kp, (F.binds (ps := ["pen", "figures"]) fun _ _ _ _ _ _ us hl => match us, hl with | [_, _], _ => rfl)⟩
end
end Lw
set_option Elab.async false
set_option linter.all false
set_option maxRecDepth 100000
set_option maxHeartbeats 8000000
namespace Lw
open PySem PySem.Spec PyProof.Rows L2 DL
section
variable {P : Program} {w : World} {K : Frg} {mg : Str → Option Value} {base : Heap}
/-! ### _law_words -/
abbrev s__law_words : Stmt := topS 21
abbrev N__law_words : List Str := ["pen", "many", "letters", "base", "at", "first", "step", "k"]
theorem sc__law_words : FnScope N__law_words ["pen", "many"] (defScope s__law_words) := ⟨rfl, rfl, rfl, by decide +kernel, rfl, by decide +kernel, by decide +kernel⟩
noncomputable def b__law_words : MS :=
  (sSeq (sSet 2 (eC (.str "abcdefghijklmnopqrstuvwxyz")))
    (sSeq (sSet 3 (eBin joinD (eC (.str "")) (eFrz (eLc (iRg1 (eBin addD (eC (.int 1)) (eCall m__law_draw (aCons (eVar 0) (aCons (eC (.int 8)) aNil))))) (gNm 7) cYes (eCall m__law_pick (aCons (eVar 0) (aCons (eVar 2) aNil))) [7]))))
    (sSeq (sAsg (eTup (aCons (eCall m__law_draw (aCons (eVar 0) (aCons (eCB (c1 lenD) (aCons (eVar 3) aNil)) aNil))) (aCons (eCall m__law_draw (aCons (eVar 0) (aCons (eC (.int 26)) aNil))) aNil))) (gTp [4, 5]))
    (sSeq (sSet 6 (eCall m__law_pick (aCons (eVar 0) (aCons (eLst (aCons (eC (.int 1)) (aCons (eC (.int 3)) (aCons (eC (.int 5)) (aCons (eC (.int 7)) (aCons (eC (.int 9)) (aCons (eC (.int 11)) (aCons (eC (.int 15)) (aCons (eC (.int 17)) (aCons (eC (.int 19)) (aCons (eC (.int 21)) (aCons (eC (.int 23)) (aCons (eC (.int 25)) aNil))))))))))))) aNil))))
    (sRet (eFrz (eLc (iRg1 (eVar 1)) (gNm 7) cYes (eBin addD (eBin addD (eSl (eVar 3) oNo (oYes (eVar 4))) (eBin ixD (eVar 2) (eBin modD (eBin addD (eVar 5) (eBin mulD' (eVar 6) (eVar 7))) (eC (.int 26))))) (eSl (eVar 3) (oYes (eBin addD (eVar 4) (eC (.int 1)))) oNo)) [7])))))))
noncomputable def m__law_words : MF := fnM 2 8 b__law_words
theorem fn__law_words {a : Addr} {fd : FuncData} (F : Fun K "_law_words" "_law_words" s__law_words a fd) (T : Tx mg) (H__law_draw : Has P w K mg base "_law_draw" 1 ["pen", "many"] m__law_draw) (H__law_pick : Has P w K mg base "_law_pick" 2 ["pen", "some"] m__law_pick) : FnG P w K mg base 3 a fd ["pen", "many"] m__law_words := by
  have S := sc__law_words
  unfold m__law_words
  refine fng2 (k := 2) (b := b__law_words) F S rfl rfl (by decide) ?_
  intro cdv A outer s H gd hr
  exact (qs_cons (q_set (i := 2) S.nd rfl (by first | exact Or.inl rfl | exact Or.inr rfl) q_str)
      (qs_cons (q_set (i := 3) S.nd rfl (by first | exact Or.inl rfl | exact Or.inr rfl) (q_join q_str (q_frz (q_lc (own := [("k", 7)]) (g := (gNm 7)) (c := cYes) (f := (eCall m__law_pick (aCons (eVar 0) (aCons (eVar 2) aNil)))) rfl S.nd (q_irng1 rfl T.b_range (q_bin od_add q_int (q_callH (H__law_draw.up (by decide)) gd hr rfl (qa_cons (q_var (pv 0)) (qa_cons q_int qa_nil))))) (blkOk_by (N := N__law_words) (sc := defScope s__law_words) (by decide +kernel)) (fun _ _ _ _ _ => (q_gname (vs := [7]) (i := 7) S.nd rfl (by first | exact Or.inl rfl | exact Or.inr rfl) (by decide))) (fun _ _ _ _ _ => q_tsnil) (fun _ _ _ _ _ => (q_callH (H__law_pick.up (by decide)) gd hr rfl (qa_cons (q_var (pv 0)) (qa_cons (q_var (pv 2)) qa_nil))))))))
      (qs_cons (q_asg (q_tup (qa_cons (q_callH (H__law_draw.up (by decide)) gd hr rfl (qa_cons (q_var (pv 0)) (qa_cons (q_callB cd_len rfl T.b_len (by decide +kernel) (qa_cons (q_var (pv 3)) qa_nil)) qa_nil))) (qa_cons (q_callH (H__law_draw.up (by decide)) gd hr rfl (qa_cons (q_var (pv 0)) (qa_cons q_int qa_nil))) qa_nil))) (q_gtup (vs := [4, 5]) rfl (q_gcons (vs := [4, 5]) (i := 4) S.nd rfl (by first | exact Or.inl rfl | exact Or.inr rfl) (q_gcons (vs := [4, 5]) (i := 5) S.nd rfl (by first | exact Or.inl rfl | exact Or.inr rfl) q_gnil (by decide)) (by decide))))
      (qs_cons (q_set (i := 6) S.nd rfl (by first | exact Or.inl rfl | exact Or.inr rfl) (q_callH (H__law_pick.up (by decide)) gd hr rfl (qa_cons (q_var (pv 0)) (qa_cons (q_lst (qa_cons q_int (qa_cons q_int (qa_cons q_int (qa_cons q_int (qa_cons q_int (qa_cons q_int (qa_cons q_int (qa_cons q_int (qa_cons q_int (qa_cons q_int (qa_cons q_int (qa_cons q_int qa_nil))))))))))))) qa_nil))))
      (qs_one (q_ret (q_frz (q_lc (own := [("k", 7)]) (g := (gNm 7)) (c := cYes) (f := (eBin addD (eBin addD (eSl (eVar 3) oNo (oYes (eVar 4))) (eBin ixD (eVar 2) (eBin modD (eBin addD (eVar 5) (eBin mulD' (eVar 6) (eVar 7))) (eC (.int 26))))) (eSl (eVar 3) (oYes (eBin addD (eVar 4) (eC (.int 1)))) oNo))) rfl S.nd (q_irng1 rfl T.b_range (q_var (pv 1))) (blkOk_by (N := N__law_words) (sc := defScope s__law_words) (by decide +kernel)) (fun _ _ _ _ _ => (q_gname (vs := [7]) (i := 7) S.nd rfl (by first | exact Or.inl rfl | exact Or.inr rfl) (by decide))) (fun _ _ _ _ _ => q_tsnil) (fun _ _ _ _ _ => (q_bin od_add (q_bin od_add (q_slice (q_var (pv 3)) q_no (q_yes (q_var (pv 4)))) (q_ix (q_var (pv 2)) (q_bin od_mod (q_bin od_add (q_var (pv 5)) (q_bin od_mul' (q_var (pv 6)) (q_var (pv 7)))) q_int))) (q_slice (q_var (pv 3)) (q_yes (q_bin od_add (q_var (pv 4)) q_int)) q_no)))))))))))
theorem ok__law_words {a : Addr} {fd : FuncData} (F : Fun K "_law_words" "_law_words" s__law_words a fd) (M : mg "_law_words" = some (.ref a)) (T : Tx mg) (H__law_draw : Has P w K mg base "_law_draw" 1 ["pen", "many"] m__law_draw) (H__law_pick : Has P w K mg base "_law_pick" 2 ["pen", "some"] m__law_pick) : Has P w K mg base "_law_words" 3 ["pen", "many"] m__law_words :=
  ⟨a, fd, fn__law_words F T H__law_draw H__law_pick, M, F.kp, (F.binds (ps := ["pen", "many"]) fun _ _ _ _ _ _ us hl => match us, hl with | [_, _], _ => rfl)⟩
end
end Lw
set_option Elab.async false
set_option linter.all false
set_option maxRecDepth 100000
set_option maxHeartbeats 8000000
namespace Lw
open PySem PySem.Spec PyProof.Rows L2 DL
section
variable {P : Program} {w : World} {K : Frg} {mg : Str → Option Value} {base : Heap}
/-! ### _law_anything -/
abbrev s__law_anything : Stmt := topS 22
abbrev N__law_anything : List Str := ["pen", "deep", "inner", "some", "k"]
theorem sc__law_anything : FnScope N__law_anything ["pen", "deep"] (defScope s__law_anything) := ⟨rfl, rfl, rfl, by decide +kernel, rfl, by decide +kernel, by decide +kernel⟩
noncomputable def b__law_anything (F0 : MF) : MS :=
  (sSeq (sSet 2 (eFrz (eLc (iRg1 (eIf (bOf (eBin gtD (eVar 1) (eC (.int 0)))) (eCall m__law_draw (aCons (eVar 0) (aCons (eC (.int 4)) aNil))) (eC (.int 0)))) (gNm 4) cYes (eCall F0 (aCons (eVar 0) (aCons (eBin subD (eVar 1) (eC (.int 1))) aNil))) [4])))
    (sSeq (sSet 3 (eLst (aCons (eC .none) (aCons (eC (.bool true)) (aCons (eC (.bool false)) (aCons (eC (.int 0)) (aCons (eC (.int 1)) (aCons (eNeg (eC (.int 1))) (aCons (eC (.int 2)) (aCons (eBin powD (eC (.int 10)) (eC (.int 18))) (aCons (eBin addD (eBin powD (eC (.int 10)) (eC (.int 18))) (eC (.int 1))) (aCons (eBin subD (eNeg (eBin powD (eC (.int 10)) (eC (.int 18)))) (eC (.int 1))) (aCons (eC (.str "")) (aCons (eC (.str "a")) (aCons (eBin mulD' (eC (.str "z")) (eC (.int 8))) (aCons (eBin mulD' (eC (.str "z")) (eC (.int 9))) (aCons (eC (.str "A")) aNil)))))))))))))))))
    (sSeq (sSet 3 (eBin addD (eVar 3) (eLst (aCons (eC (.str "a b")) (aCons (eC (.str "a1")) (aCons (eLst aNil) (aCons eDct0 (aCons (eTup aNil) (aCons (eCB (c1 tupleD) (aCons (eVar 2) aNil)) (aCons (eCB (c1 tupleD) (aCons (eVar 2) aNil)) (aCons (eCB (c1 listD) (aCons (eVar 2) aNil)) (aCons (eFrz (eDct [((Str.ofString "a"), (eCB (c1 tupleD) (aCons (eVar 2) aNil)))])) aNil))))))))))))
    (sRet (eBin ixD (eVar 3) (eCall m__law_draw (aCons (eVar 0) (aCons (eCB (c1 lenD) (aCons (eVar 3) aNil)) aNil))))))))
noncomputable def m__law_anything : Nat → MF
  | 0 => fun _ _ => none
  | n + 1 => fnM 2 5 (b__law_anything (m__law_anything n))
theorem ok__law_anything {a : Addr} {fd : FuncData} (F : Fun K "_law_anything" "_law_anything" s__law_anything a fd) (M : mg "_law_anything" = some (.ref a)) (T : Tx mg) (H__law_draw : Has P w K mg base "_law_draw" 1 ["pen", "many"] m__law_draw) : ∀ n : Nat, Has P w K mg base "_law_anything" (1 + n) ["pen", "deep"] (m__law_anything n)
  | 0 => ⟨a, fd, fng_none, M, F.kp, (F.binds (ps := ["pen", "deep"]) fun _ _ _ _ _ _ us hl => match us, hl with | [_, _], _ => rfl)⟩
  | n + 1 => by
    have self : Has P w K mg base "_law_anything" (1 + n) ["pen", "deep"] (m__law_anything n) := ok__law_anything F M T H__law_draw n
    have S := sc__law_anything
    have e : m__law_anything (n + 1) = fnM 2 5 (b__law_anything (m__law_anything n)) := rfl
    rw [e]
    refine ⟨a, fd, fng2 (k := 1 + n) (b := b__law_anything (m__law_anything n)) F S rfl rfl (by decide) ?_, M, F.kp, (F.binds (ps := ["pen", "deep"]) fun _ _ _ _ _ _ us hl => match us, hl with | [_, _], _ => rfl)⟩
    intro cdv A outer s H gd hr
    have rm := hr
    exact (qs_cons (q_sfrz (q_setLc (i := 2) (own := [("k", 4)]) (g := (gNm 4)) (c := cYes) (f := (eCall (m__law_anything n) (aCons (eVar 0) (aCons (eBin subD (eVar 1) (eC (.int 1))) aNil)))) rfl S.nd rfl rfl (sw_true rfl rfl rfl (by decide +kernel)) (q_irng1 rfl T.b_range (q_ifExp (q_tcmp od_gt (q_var (pv 1)) q_int) (q_callH (H__law_draw.up (by omega)) gd rm rfl (qa_cons (q_var (pv 0)) (qa_cons q_int qa_nil))) q_int)) (blkOk_by (N := N__law_anything) (sc := defScope s__law_anything) (by decide +kernel)) (fun _ _ _ _ _ => (q_gname (vs := [4]) (i := 4) S.nd rfl (by first | exact Or.inl rfl | exact Or.inr rfl) (by decide))) (fun _ _ _ _ _ => q_tsnil) (fun _ _ _ _ _ => (q_callH self gd rm rfl (qa_cons (q_var (pv 0)) (qa_cons (q_bin od_sub (q_var (pv 1)) q_int) qa_nil))))))
      (qs_cons (q_set (i := 3) S.nd rfl (by first | exact Or.inl rfl | exact Or.inr rfl) (q_lst (qa_cons q_non (qa_cons q_bl (qa_cons q_bl (qa_cons q_int (qa_cons q_int (qa_cons (q_neg q_int) (qa_cons q_int (qa_cons (q_bin od_pow q_int q_int) (qa_cons (q_bin od_add (q_bin od_pow q_int q_int) q_int) (qa_cons (q_bin od_sub (q_neg (q_bin od_pow q_int q_int)) q_int) (qa_cons q_str (qa_cons q_str (qa_cons (q_bin od_mul' q_str q_int) (qa_cons (q_bin od_mul' q_str q_int) (qa_cons q_str qa_nil)))))))))))))))))
      (qs_cons (q_set (i := 3) S.nd rfl (by first | exact Or.inl rfl | exact Or.inr rfl) (q_bin od_add (q_var (pv 3)) (q_lst (qa_cons q_str (qa_cons q_str (qa_cons (q_lst qa_nil) (qa_cons q_dct0 (qa_cons (q_tup qa_nil) (qa_cons (q_callTy cd_tuple rfl T.b_tuple (by decide +kernel) (qa_cons (q_var (pv 2)) qa_nil)) (qa_cons (q_callTy cd_tuple rfl T.b_tuple (by decide +kernel) (qa_cons (q_var (pv 2)) qa_nil)) (qa_cons (q_callTy cd_list rfl T.b_list (by decide +kernel) (qa_cons (q_var (pv 2)) qa_nil)) (qa_cons (q_frz (q_dct (ps := [((Str.ofString "a"), (eCB (c1 tupleD) (aCons (eVar 2) aNil)))]) (pps_cons pe_str (q_callTy cd_tuple rfl T.b_tuple (by decide +kernel) (qa_cons (q_var (pv 2)) qa_nil)) pps_nil))) qa_nil))))))))))))
      (qs_one (q_ret (q_ix (q_var (pv 3)) (q_callH (H__law_draw.up (by omega)) gd rm rfl (qa_cons (q_var (pv 0)) (qa_cons (q_callB cd_len rfl T.b_len (by decide +kernel) (qa_cons (q_var (pv 3)) qa_nil)) qa_nil)))))))))
end
end Lw
set_option Elab.async false
set_option linter.all false
set_option maxRecDepth 100000
set_option maxHeartbeats 8000000
namespace Lw
open PySem PySem.Spec PyProof.Rows L2 DL
section
variable {P : Program} {w : World} {K : Frg} {mg : Str → Option Value} {base : Heap}
/-! ### _law_whole -/
abbrev s__law_whole : Stmt := topS 23
abbrev N__law_whole : List Str := ["thing", "low", "high"]
theorem sc__law_whole : FnScope N__law_whole ["thing", "low", "high"] (defScope s__law_whole) := ⟨rfl, rfl, rfl, by decide +kernel, rfl, by decide +kernel, by decide +kernel⟩
noncomputable def b__law_whole : MS :=
  (sRet (eAnd (eIs "int" (eVar 0)) (eAnd (eNot (eIs "bool" (eVar 0))) (eChain leD leD (eVar 1) (eVar 0) (eVar 2)))))
noncomputable def m__law_whole : MF := fnM 3 3 b__law_whole
theorem fn__law_whole {a : Addr} {fd : FuncData} (F : Fun K "_law_whole" "_law_whole" s__law_whole a fd) (T : Tx mg) : FnG P w K mg base 1 a fd ["thing", "low", "high"] m__law_whole := by
  have S := sc__law_whole
  unfold m__law_whole
  refine fng2 (k := 0) (b := b__law_whole) F S rfl rfl (by decide) ?_
  intro cdv A outer s H gd hr
  exact (qs_one (q_ret (q_and (q_isi rfl T.b_isinstance rfl T.b_int (by decide +kernel) (q_var (pv 0))) (q_and (q_not (q_isi rfl T.b_isinstance rfl T.b_bool (by decide +kernel) (q_var (pv 0)))) (q_one (q_chain od_le od_le (q_var (pv 1)) (q_var (pv 0)) (q_var (pv 2))))))))
theorem ok__law_whole {a : Addr} {fd : FuncData} (F : Fun K "_law_whole" "_law_whole" s__law_whole a fd) (M : mg "_law_whole" = some (.ref a)) (T : Tx mg) : Has P w K mg base "_law_whole" 1 ["thing", "low", "high"] m__law_whole :=
  ⟨a, fd, fn__law_whole F T , M, F.kp, (F.binds (ps := ["thing", "low", "high"]) fun _ _ _ _ _ _ us hl => match us, hl with | [_, _, _], _ => rfl)⟩
end
end Lw
set_option Elab.async false
set_option linter.all false
set_option maxRecDepth 100000
set_option maxHeartbeats 8000000
namespace Lw
open PySem PySem.Spec PyProof.Rows L2 DL
section
variable {P : Program} {w : World} {K : Frg} {mg : Str → Option Value} {base : Heap}
/-! ### _law_is_word -/
abbrev s__law_is_word : Stmt := topS 24
abbrev N__law_is_word : List Str := ["thing", "mark"]
theorem sc__law_is_word : FnScope N__law_is_word ["thing"] (defScope s__law_is_word) := ⟨rfl, rfl, rfl, by decide +kernel, rfl, by decide +kernel, by decide +kernel⟩
noncomputable def b__law_is_word : MS :=
  (sSeq (sIf (bOr (bNot (bTru (eIs "str" (eVar 0)))) (bNot (bOf (eChain leD leD (eC (.int 1)) (eCB (c1 lenD) (aCons (eVar 0) aNil)) (eC (.int 8)))))) (sRet (eC (.bool false))) sNil)
    (sRet (eBinF eqD (eFrz (eLc (iAny (eVar 0)) (gNm 1) (bOf (eBin notinD (eVar 1) (eC (.str "abcdefghijklmnopqrstuvwxyz")))) (eVar 1) [1])) (eLst aNil))))
noncomputable def m__law_is_word : MF := fnM 1 2 b__law_is_word
theorem fn__law_is_word {a : Addr} {fd : FuncData} (F : Fun K "_law_is_word" "_law_is_word" s__law_is_word a fd) (T : Tx mg) : FnG P w K mg base 1 a fd ["thing"] m__law_is_word := by
  have S := sc__law_is_word
  unfold m__law_is_word
  refine fng2 (k := 0) (b := b__law_is_word) F S rfl rfl (by decide) ?_
  intro cdv A outer s H gd hr
  exact (qs_cons (q_if (PW.pt (q_tor (q_tnot (q_tru (q_isi rfl T.b_isinstance rfl T.b_str (by decide +kernel) (q_var (pv 0))))) (q_tor1 (q_tnot (q_tchain od_le od_le q_int (q_callB cd_len rfl T.b_len (by decide +kernel) (qa_cons (q_var (pv 0)) qa_nil)) q_int))))) (qs_one (q_ret q_bl)) qs_nil)
      (qs_one (q_ret (q_cmpF (od_eq (room64 hr)) (q_frz (q_lc (own := [("mark", 1)]) (g := (gNm 1)) (c := (bOf (eBin notinD (eVar 1) (eC (.str "abcdefghijklmnopqrstuvwxyz"))))) (f := (eVar 1)) rfl S.nd (q_iany (q_var (pv 0))) (blkOk_by (N := N__law_is_word) (sc := defScope s__law_is_word) (by decide +kernel)) (fun _ _ _ _ _ => (q_gname (vs := [1]) (i := 1) S.nd rfl (by first | exact Or.inl rfl | exact Or.inr rfl) (by decide))) (fun _ _ _ _ _ => (q_tsone (q_tcmp od_notin (q_var (pv 1)) q_str))) (fun _ _ _ _ _ => (q_var (pv 1))))) (q_lst qa_nil)))))
theorem ok__law_is_word {a : Addr} {fd : FuncData} (F : Fun K "_law_is_word" "_law_is_word" s__law_is_word a fd) (M : mg "_law_is_word" = some (.ref a)) (T : Tx mg) : Has P w K mg base "_law_is_word" 1 ["thing"] m__law_is_word :=
  ⟨a, fd, fn__law_is_word F T , M, F.kp, (F.binds (ps := ["thing"]) fun _ _ _ _ _ _ us hl => match us, hl with | [_], _ => rfl)⟩
end
end Lw
set_option Elab.async false
set_option linter.all false
set_option maxRecDepth 100000
set_option maxHeartbeats 8000000
namespace Lw
open PySem PySem.Spec PyProof.Rows L2 DL
section
variable {P : Program} {w : World} {K : Frg} {mg : Str → Option Value} {base : Heap}
/-! ### _law_is_yards -/
abbrev s__law_is_yards : Stmt := topS 25
abbrev N__law_is_yards : List Str := ["thing"]
theorem sc__law_is_yards : FnScope N__law_is_yards ["thing"] (defScope s__law_is_yards) := ⟨rfl, rfl, rfl, by decide +kernel, rfl, by decide +kernel, by decide +kernel⟩
noncomputable def b__law_is_yards : MS :=
  (sSeq (sIf (bOr (bNot (bTru (eIs "tuple" (eVar 0)))) (bOr (bOf (eBinF neD (eCB (c1 lenD) (aCons (eVar 0) aNil)) (eC (.int 4)))) (bNot (bTru (eCall m__law_is_word (aCons (eBin ixD (eVar 0) (eC (.int 0))) aNil)))))) (sRet (eC (.bool false))) sNil)
    (sSeq (sIf (bOr (bNot (bTru (eCall m__law_whole (aCons (eBin ixD (eVar 0) (eC (.int 1))) (aCons (eC (.int 0)) (aCons (eBin powD (eC (.int 10)) (eC (.int 18))) aNil)))))) (bNot (bTru (eCall m__law_whole (aCons (eBin ixD (eVar 0) (eC (.int 2))) (aCons (eC (.int 1)) (aCons (eBin addD (eBin powD (eC (.int 10)) (eC (.int 18))) (eC (.int 1))) aNil))))))) (sRet (eC (.bool false))) sNil)
    (sRet (eAnd (eCall m__law_whole (aCons (eBin ixD (eVar 0) (eC (.int 3))) (aCons (eNeg (eC (.int 1))) (aCons (eC (.int 1)) aNil)))) (eAnd (eBinF neD (eBin ixD (eVar 0) (eC (.int 3))) (eC (.int 0))) (eChain leD leD (eC (.int 0)) (eBin addD (eBin ixD (eVar 0) (eC (.int 1))) (eBin mulD' (eBin ixD (eVar 0) (eC (.int 3))) (eBin subD (eBin ixD (eVar 0) (eC (.int 2))) (eC (.int 1))))) (eBin powD (eC (.int 10)) (eC (.int 18)))))))))
noncomputable def m__law_is_yards : MF := fnM 1 1 b__law_is_yards
theorem fn__law_is_yards {a : Addr} {fd : FuncData} (F : Fun K "_law_is_yards" "_law_is_yards" s__law_is_yards a fd) (T : Tx mg) (H__law_whole : Has P w K mg base "_law_whole" 1 ["thing", "low", "high"] m__law_whole) (H__law_is_word : Has P w K mg base "_law_is_word" 1 ["thing"] m__law_is_word) : FnG P w K mg base 2 a fd ["thing"] m__law_is_yards := by
  have S := sc__law_is_yards
  unfold m__law_is_yards
  refine fng2 (k := 1) (b := b__law_is_yards) F S rfl rfl (by decide) ?_
  intro cdv A outer s H gd hr
  exact (qs_cons (q_if (PW.pt (q_tor (q_tnot (q_tru (q_isi rfl T.b_isinstance rfl T.b_tuple (by decide +kernel) (q_var (pv 0))))) (q_tor (q_tcmpF (od_ne (room64 hr)) (q_callB cd_len rfl T.b_len (by decide +kernel) (qa_cons (q_var (pv 0)) qa_nil)) q_int) (q_tor1 (q_tnot (q_tru (q_callH (H__law_is_word.up (by decide)) gd hr rfl (qa_cons (q_ix (q_var (pv 0)) q_int) qa_nil)))))))) (qs_one (q_ret q_bl)) qs_nil)
      (qs_cons (q_if (PW.pt (q_tor (q_tnot (q_tru (q_callH (H__law_whole.up (by decide)) gd hr rfl (qa_cons (q_ix (q_var (pv 0)) q_int) (qa_cons q_int (qa_cons (q_bin od_pow q_int q_int) qa_nil)))))) (q_tor1 (q_tnot (q_tru (q_callH (H__law_whole.up (by decide)) gd hr rfl (qa_cons (q_ix (q_var (pv 0)) q_int) (qa_cons q_int (qa_cons (q_bin od_add (q_bin od_pow q_int q_int) q_int) qa_nil))))))))) (qs_one (q_ret q_bl)) qs_nil)
      (qs_one (q_ret (q_and (q_callH (H__law_whole.up (by decide)) gd hr rfl (qa_cons (q_ix (q_var (pv 0)) q_int) (qa_cons (q_neg q_int) (qa_cons q_int qa_nil)))) (q_and (q_cmpF (od_ne (room64 hr)) (q_ix (q_var (pv 0)) q_int) q_int) (q_one (q_chain od_le od_le q_int (q_bin od_add (q_ix (q_var (pv 0)) q_int) (q_bin od_mul' (q_ix (q_var (pv 0)) q_int) (q_bin od_sub (q_ix (q_var (pv 0)) q_int) q_int))) (q_bin od_pow q_int q_int)))))))))
theorem ok__law_is_yards {a : Addr} {fd : FuncData} (F : Fun K "_law_is_yards" "_law_is_yards" s__law_is_yards a fd) (M : mg "_law_is_yards" = some (.ref a)) (T : Tx mg) (H__law_whole : Has P w K mg base "_law_whole" 1 ["thing", "low", "high"] m__law_whole) (H__law_is_word : Has P w K mg base "_law_is_word" 1 ["thing"] m__law_is_word) : Has P w K mg base "_law_is_yards" 2 ["thing"] m__law_is_yards :=
  ⟨a, fd, fn__law_is_yards F T H__law_whole H__law_is_word, M, F.kp, (F.binds (ps := ["thing"]) fun _ _ _ _ _ _ us hl => match us, hl with | [_], _ => rfl)⟩
end
end Lw
set_option Elab.async false
set_option linter.all false
set_option maxRecDepth 100000
set_option maxHeartbeats 8000000
namespace Lw
open PySem PySem.Spec PyProof.Rows L2 DL
section
variable {P : Program} {w : World} {K : Frg} {mg : Str → Option Value} {base : Heap}
/-! ### _law_is_row -/
abbrev s__law_is_row : Stmt := topS 26
abbrev N__law_is_row : List Str := ["thing", "one"]
theorem sc__law_is_row : FnScope N__law_is_row ["thing"] (defScope s__law_is_row) := ⟨rfl, rfl, rfl, by decide +kernel, rfl, by decide +kernel, by decide +kernel⟩
noncomputable def b__law_is_row : MS :=
  (sRet (eAnd (eIs2 "list" "tuple" (eVar 0)) (eBinF eqD (eFrz (eLc (iAny (eVar 0)) (gNm 1) (bNot (bTru (eCall m__law_is_yards (aCons (eVar 1) aNil)))) (eVar 1) [1])) (eLst aNil))))
noncomputable def m__law_is_row : MF := fnM 1 2 b__law_is_row
theorem fn__law_is_row {a : Addr} {fd : FuncData} (F : Fun K "_law_is_row" "_law_is_row" s__law_is_row a fd) (T : Tx mg) (H__law_is_yards : Has P w K mg base "_law_is_yards" 2 ["thing"] m__law_is_yards) : FnG P w K mg base 3 a fd ["thing"] m__law_is_row := by
  have S := sc__law_is_row
  unfold m__law_is_row
  refine fng2 (k := 2) (b := b__law_is_row) F S rfl rfl (by decide) ?_
  intro cdv A outer s H gd hr
  exact (qs_one (q_ret (q_and (q_isi2 rfl T.b_isinstance rfl T.b_list (by decide +kernel) rfl T.b_tuple (by decide +kernel) (q_var (pv 0))) (q_one (q_cmpF (od_eq (room64 hr)) (q_frz (q_lc (own := [("one", 1)]) (g := (gNm 1)) (c := (bNot (bTru (eCall m__law_is_yards (aCons (eVar 1) aNil))))) (f := (eVar 1)) rfl S.nd (q_iany (q_var (pv 0))) (blkOk_by (N := N__law_is_row) (sc := defScope s__law_is_row) (by decide +kernel)) (fun _ _ _ _ _ => (q_gname (vs := [1]) (i := 1) S.nd rfl (by first | exact Or.inl rfl | exact Or.inr rfl) (by decide))) (fun _ _ _ _ _ => (q_tsone (q_tnot (q_tru (q_callH (H__law_is_yards.up (by decide)) gd hr rfl (qa_cons (q_var (pv 1)) qa_nil)))))) (fun _ _ _ _ _ => (q_var (pv 1))))) (q_lst qa_nil))))))
theorem ok__law_is_row {a : Addr} {fd : FuncData} (F : Fun K "_law_is_row" "_law_is_row" s__law_is_row a fd) (M : mg "_law_is_row" = some (.ref a)) (T : Tx mg) (H__law_is_yards : Has P w K mg base "_law_is_yards" 2 ["thing"] m__law_is_yards) : Has P w K mg base "_law_is_row" 3 ["thing"] m__law_is_row :=
  ⟨a, fd, fn__law_is_row F T H__law_is_yards, M, F.kp, (F.binds (ps := ["thing"]) fun _ _ _ _ _ _ us hl => match us, hl with | [_], _ => rfl)⟩
end
end Lw
set_option Elab.async false
set_option linter.all false
set_option maxRecDepth 100000
set_option maxHeartbeats 8000000
namespace Lw
open PySem PySem.Spec PyProof.Rows L2 DL
section
variable {P : Program} {w : World} {K : Frg} {mg : Str → Option Value} {base : Heap}
/-! ### _law_long_row -/
abbrev s__law_long_row : Stmt := topS 27
abbrev N__law_long_row : List Str := ["pen", "words", "most", "found", "k", "way", "many", "first", "word", "elder", "going"]
theorem sc__law_long_row : FnScope N__law_long_row ["pen", "words", "most"] (defScope s__law_long_row) := ⟨rfl, rfl, rfl, by decide +kernel, rfl, by decide +kernel, by decide +kernel⟩
noncomputable def b__law_long_row : MS :=
  (sSeq (sSet 3 (eLstL aNil))
    (sSeq (sFor (iRg1 (eCall m__law_draw (aCons (eVar 0) (aCons (eBin addD (eVar 2) (eC (.int 1))) aNil)))) (gNm 4) (sSeq (sPar 5 6 (aCons (eCall m__law_pick (aCons (eVar 0) (aCons (eLst (aCons (eC (.int 1)) (aCons (eNeg (eC (.int 1))) aNil))) aNil))) (aCons (eBin addD (eC (.int 1)) (eCall m__law_great (aCons (eVar 0) (aCons (eBin ixD (eLst (aCons (eC (.int 1)) (aCons (eC (.int 1)) (aCons (eC (.int 5)) (aCons (eC (.int 17)) aNil))))) (eCall m__law_draw (aCons (eVar 0) (aCons (eC (.int 4)) aNil)))) aNil)))) aNil)))
    (sSeq (sSet 7 (eCall m__law_pick (aCons (eVar 0) (aCons (eLst (aCons (eC (.int 0)) (aCons (eBin subD (eBin addD (eBin powD (eC (.int 10)) (eC (.int 18))) (eC (.int 1))) (eVar 6)) (aCons (eCall m__law_great (aCons (eVar 0) (aCons (eC (.int 17)) aNil))) aNil)))) aNil))))
    (sSeq (sSet 7 (eIf (bOf (eBinF eqD (eVar 5) (eC (.int 1)))) (eVar 7) (eBin subD (eBin addD (eVar 7) (eVar 6)) (eC (.int 1)))))
    (sSeq (sSet 8 (eCall m__law_pick (aCons (eVar 0) (aCons (eVar 1) aNil))))
    (sSeq (sIf (bAnd (bOf (eBinF neD (eVar 3) (eLst aNil))) (bOf (eBinF eqD (eCall m__law_draw (aCons (eVar 0) (aCons (eC (.int 2)) aNil))) (eC (.int 0))))) (sSeq (sSet 9 (eBin ixD (eVar 3) (eNeg (eC (.int 1)))))
    (sSeq (sSet 10 (eTup (aCons (eBin ixD (eVar 9) (eC (.int 0))) (aCons (eBin addD (eBin ixD (eVar 9) (eC (.int 1))) (eBin mulD' (eBin ixD (eVar 9) (eC (.int 2))) (eBin ixD (eVar 9) (eC (.int 3))))) (aCons (eVar 6) (aCons (eBin ixD (eVar 9) (eC (.int 3))) aNil))))))
    (sAsg (eIf (bTru (eCall m__law_is_yards (aCons (eVar 10) aNil))) (eVar 10) (eTup (aCons (eVar 8) (aCons (eVar 7) (aCons (eVar 6) (aCons (eVar 5) aNil)))))) (gTp [8, 7, 6, 5])))) sNil)
    (sEx (eApp (eVar 3) (eTup (aCons (eVar 8) (aCons (eVar 7) (aCons (eVar 6) (aCons (eVar 5) aNil)))))))))))))
    (sRet (eVar 3))))
noncomputable def m__law_long_row : MF := fnM 3 11 b__law_long_row
theorem fn__law_long_row {a : Addr} {fd : FuncData} (F : Fun K "_law_long_row" "_law_long_row" s__law_long_row a fd) (T : Tx mg) (H__law_draw : Has P w K mg base "_law_draw" 1 ["pen", "many"] m__law_draw) (H__law_pick : Has P w K mg base "_law_pick" 2 ["pen", "some"] m__law_pick) (H__law_great : Has P w K mg base "_law_great" 2 ["pen", "figures"] m__law_great) (H__law_is_yards : Has P w K mg base "_law_is_yards" 2 ["thing"] m__law_is_yards) : FnG P w K mg base 3 a fd ["pen", "words", "most"] m__law_long_row := by
  have S := sc__law_long_row
  unfold m__law_long_row
  refine fng2 (k := 2) (b := b__law_long_row) F S rfl rfl (by decide) ?_
  intro cdv A outer s H gd hr
  exact (qs_cons (q_set (i := 3) S.nd rfl (by first | exact Or.inl rfl | exact Or.inr rfl) (q_lstL qa_nil))
      (qs_cons (q_for PassesOwn.never rfl (q_irng1 rfl T.b_range (q_callH (H__law_draw.up (by decide)) gd hr rfl (qa_cons (q_var (pv 0)) (qa_cons (q_bin od_add (q_var (pv 2)) q_int) qa_nil)))) (q_gname (vs := [4]) (i := 4) S.nd rfl (by first | exact Or.inl rfl | exact Or.inr rfl) (by decide)) (qs_cons (q_par (i := 5) (j := 6) rfl S.nd rfl rfl (by decide) rfl rfl (qa_cons (q_callH (H__law_pick.up (by decide)) gd hr rfl (qa_cons (q_var (pv 0)) (qa_cons (q_lst (qa_cons q_int (qa_cons (q_neg q_int) qa_nil))) qa_nil))) (qa_cons (q_bin od_add q_int (q_callH (H__law_great.up (by decide)) gd hr rfl (qa_cons (q_var (pv 0)) (qa_cons (q_ix (q_lst (qa_cons q_int (qa_cons q_int (qa_cons q_int (qa_cons q_int qa_nil))))) (q_callH (H__law_draw.up (by decide)) gd hr rfl (qa_cons (q_var (pv 0)) (qa_cons q_int qa_nil)))) qa_nil)))) qa_nil)))
      (qs_cons (q_set (i := 7) S.nd rfl (by first | exact Or.inl rfl | exact Or.inr rfl) (q_callH (H__law_pick.up (by decide)) gd hr rfl (qa_cons (q_var (pv 0)) (qa_cons (q_lst (qa_cons q_int (qa_cons (q_bin od_sub (q_bin od_add (q_bin od_pow q_int q_int) q_int) (q_var (pv 6))) (qa_cons (q_callH (H__law_great.up (by decide)) gd hr rfl (qa_cons (q_var (pv 0)) (qa_cons q_int qa_nil))) qa_nil)))) qa_nil))))
      (qs_cons (q_set (i := 7) S.nd rfl (by first | exact Or.inl rfl | exact Or.inr rfl) (q_ifExp (q_tcmpF (od_eq (room64 hr)) (q_var (pv 5)) q_int) (q_var (pv 7)) (q_bin od_sub (q_bin od_add (q_var (pv 7)) (q_var (pv 6))) q_int)))
      (qs_cons (q_set (i := 8) S.nd rfl (by first | exact Or.inl rfl | exact Or.inr rfl) (q_callH (H__law_pick.up (by decide)) gd hr rfl (qa_cons (q_var (pv 0)) (qa_cons (q_var (pv 1)) qa_nil))))
      (qs_cons (q_if (PW.pt (q_tand (q_tcmpF (od_ne (room64 hr)) (q_var (pv 3)) (q_lst qa_nil)) (q_tand1 (q_tcmpF (od_eq (room64 hr)) (q_callH (H__law_draw.up (by decide)) gd hr rfl (qa_cons (q_var (pv 0)) (qa_cons q_int qa_nil))) q_int)))) (qs_cons (q_set (i := 9) S.nd rfl (by first | exact Or.inl rfl | exact Or.inr rfl) (q_ix (q_var (pv 3)) (q_neg q_int)))
      (qs_cons (q_set (i := 10) S.nd rfl (by first | exact Or.inl rfl | exact Or.inr rfl) (q_tup (qa_cons (q_ix (q_var (pv 9)) q_int) (qa_cons (q_bin od_add (q_ix (q_var (pv 9)) q_int) (q_bin od_mul' (q_ix (q_var (pv 9)) q_int) (q_ix (q_var (pv 9)) q_int))) (qa_cons (q_var (pv 6)) (qa_cons (q_ix (q_var (pv 9)) q_int) qa_nil))))))
      (qs_one (q_asg (q_ifExp (q_tru (q_callH (H__law_is_yards.up (by decide)) gd hr rfl (qa_cons (q_var (pv 10)) qa_nil))) (q_var (pv 10)) (q_tup (qa_cons (q_var (pv 8)) (qa_cons (q_var (pv 7)) (qa_cons (q_var (pv 6)) (qa_cons (q_var (pv 5)) qa_nil)))))) (q_gtup (vs := [8, 7, 6, 5]) rfl (q_gcons (vs := [8, 7, 6, 5]) (i := 8) S.nd rfl (by first | exact Or.inl rfl | exact Or.inr rfl) (q_gcons (vs := [8, 7, 6, 5]) (i := 7) S.nd rfl (by first | exact Or.inl rfl | exact Or.inr rfl) (q_gcons (vs := [8, 7, 6, 5]) (i := 6) S.nd rfl (by first | exact Or.inl rfl | exact Or.inr rfl) (q_gcons (vs := [8, 7, 6, 5]) (i := 5) S.nd rfl (by first | exact Or.inl rfl | exact Or.inr rfl) q_gnil (by decide)) (by decide)) (by decide)) (by decide))))))) qs_nil)
      (qs_one (q_expr (q_app (q_var (pv 3)) (q_tup (qa_cons (q_var (pv 8)) (qa_cons (q_var (pv 7)) (qa_cons (q_var (pv 6)) (qa_cons (q_var (pv 5)) qa_nil))))))))))))))
      (qs_one (q_ret (q_var (pv 3))))))
theorem ok__law_long_row {a : Addr} {fd : FuncData} (F : Fun K "_law_long_row" "_law_long_row" s__law_long_row a fd) (M : mg "_law_long_row" = some (.ref a)) (T : Tx mg) (H__law_draw : Has P w K mg base "_law_draw" 1 ["pen", "many"] m__law_draw) (H__law_pick : Has P w K mg base "_law_pick" 2 ["pen", "some"] m__law_pick) (H__law_great : Has P w K mg base "_law_great" 2 ["pen", "figures"] m__law_great) (H__law_is_yards : Has P w K mg base "_law_is_yards" 2 ["thing"] m__law_is_yards) : Has P w K mg base "_law_long_row" 3 ["pen", "words", "most"] m__law_long_row :=
  ⟨a, fd, fn__law_long_row F T H__law_draw H__law_pick H__law_great H__law_is_yards, M, F.kp, (F.binds (ps := ["pen", "words", "most"]) fun _ _ _ _ _ _ us hl => match us, hl with | [_, _, _], _ => rfl)⟩
end
end Lw
set_option Elab.async false
set_option linter.all false
set_option maxRecDepth 100000
set_option maxHeartbeats 8000000
namespace Lw
open PySem PySem.Spec PyProof.Rows L2 DL
section
variable {P : Program} {w : World} {K : Frg} {mg : Str → Option Value} {base : Heap}
/-! ### _law_joined -/
abbrev s__law_joined : Stmt := topS 28
abbrev N__law_joined : List Str := ["row", "found", "stretch", "elder", "going"]
theorem sc__law_joined : FnScope N__law_joined ["row"] (defScope s__law_joined) := ⟨rfl, rfl, rfl, by decide +kernel, rfl, by decide +kernel, by decide +kernel⟩
noncomputable def b__law_joined : MS :=
  (sSeq (sSet 1 (eLstL aNil))
    (sSeq (sFor (iAny (eVar 0)) (gNm 2) (sSeq (sSet 3 (eIf (bOf (eBinF neD (eVar 1) (eLst aNil))) (eBin ixD (eVar 1) (eNeg (eC (.int 1)))) (eC .none)))
    (sSeq (sSet 4 (eC .none))
    (sSeq (sIf (bOf (eIsN true (eVar 3))) (sSet 4 (eTup (aCons (eBin ixD (eVar 3) (eC (.int 0))) (aCons (eBin addD (eBin ixD (eVar 3) (eC (.int 1))) (eBin mulD' (eBin ixD (eVar 3) (eC (.int 2))) (eBin ixD (eVar 3) (eC (.int 3))))) (aCons (eBin ixD (eVar 2) (eC (.int 2))) (aCons (eBin ixD (eVar 3) (eC (.int 3))) aNil)))))) sNil)
    (sIf (bOf (eBinF eqD (eVar 2) (eVar 4))) (sSetIx (eBin addD (eSl (eVar 3) oNo (oYes (eC (.int 2)))) (eTup (aCons (eBin addD (eBin ixD (eVar 3) (eC (.int 2))) (eBin ixD (eVar 2) (eC (.int 2)))) (aCons (eBin ixD (eVar 3) (eC (.int 3))) aNil)))) (eVar 1) (eNeg (eC (.int 1)))) (sEx (eApp (eVar 1) (eVar 2))))))))
    (sRet (eVar 1))))
noncomputable def m__law_joined : MF := fnM 1 5 b__law_joined
theorem fn__law_joined {a : Addr} {fd : FuncData} (F : Fun K "_law_joined" "_law_joined" s__law_joined a fd) (T : Tx mg) : FnG P w K mg base 1 a fd ["row"] m__law_joined := by
  have S := sc__law_joined
  unfold m__law_joined
  refine fng2 (k := 0) (b := b__law_joined) F S rfl rfl (by decide) ?_
  intro cdv A outer s H gd hr
  exact (qs_cons (q_set (i := 1) S.nd rfl (by first | exact Or.inl rfl | exact Or.inr rfl) (q_lstL qa_nil))
      (qs_cons (q_for PassesOwn.never rfl (q_iany (q_var (pv 0))) (q_gname (vs := [2]) (i := 2) S.nd rfl (by first | exact Or.inl rfl | exact Or.inr rfl) (by decide)) (qs_cons (q_set (i := 3) S.nd rfl (by first | exact Or.inl rfl | exact Or.inr rfl) (q_ifExp (q_tcmpF (od_ne (room64 hr)) (q_var (pv 1)) (q_lst qa_nil)) (q_ix (q_var (pv 1)) (q_neg q_int)) q_non))
      (qs_cons (q_set (i := 4) S.nd rfl (by first | exact Or.inl rfl | exact Or.inr rfl) q_non)
      (qs_cons (q_if (q_tnotN (q_var (pv 3))) (qs_one (q_set (i := 4) S.nd rfl (by first | exact Or.inl rfl | exact Or.inr rfl) (q_tup (qa_cons (q_ix (q_var (pv 3)) q_int) (qa_cons (q_bin od_add (q_ix (q_var (pv 3)) q_int) (q_bin od_mul' (q_ix (q_var (pv 3)) q_int) (q_ix (q_var (pv 3)) q_int))) (qa_cons (q_ix (q_var (pv 2)) q_int) (qa_cons (q_ix (q_var (pv 3)) q_int) qa_nil))))))) qs_nil)
      (qs_one (q_if (q_tcmpF (od_eq (room64 hr)) (q_var (pv 2)) (q_var (pv 4))) (qs_one (q_setIx (q_var (pv 1)) (q_neg q_int) (q_bin od_add (q_slice (q_var (pv 3)) q_no (q_yes q_int)) (q_tup (qa_cons (q_bin od_add (q_ix (q_var (pv 3)) q_int) (q_ix (q_var (pv 2)) q_int)) (qa_cons (q_ix (q_var (pv 3)) q_int) qa_nil)))))) (qs_one (q_expr (q_app (q_var (pv 1)) (q_var (pv 2)))))))))))
      (qs_one (q_ret (q_var (pv 1))))))
theorem ok__law_joined {a : Addr} {fd : FuncData} (F : Fun K "_law_joined" "_law_joined" s__law_joined a fd) (M : mg "_law_joined" = some (.ref a)) (T : Tx mg) : Has P w K mg base "_law_joined" 1 ["row"] m__law_joined :=
  ⟨a, fd, fn__law_joined F T , M, F.kp, (F.binds (ps := ["row"]) fun _ _ _ _ _ _ us hl => match us, hl with | [_], _ => rfl)⟩
end
end Lw
set_option Elab.async false
set_option linter.all false
set_option maxRecDepth 100000
set_option maxHeartbeats 8000000
namespace Lw
open PySem PySem.Spec PyProof.Rows L2 DL
section
variable {P : Program} {w : World} {K : Frg} {mg : Str → Option Value} {base : Heap}
/-! ### _law_bent -/
abbrev s__law_bent : Stmt := topS 29
abbrev N__law_bent : List Str := ["pen", "thing", "turn", "at", "part"]
theorem sc__law_bent : FnScope N__law_bent ["pen", "thing"] (defScope s__law_bent) := ⟨rfl, rfl, rfl, by decide +kernel, rfl, by decide +kernel, by decide +kernel⟩
noncomputable def b__law_bent (F0 : MF) : MS :=
  (sSeq (sIf (bAnd (bTru (eIs2 "list" "tuple" (eVar 1))) (bAnd (bOf (eBin gtD (eCB (c1 lenD) (aCons (eVar 1) aNil)) (eC (.int 0)))) (bOf (eBin gtD (eCall m__law_draw (aCons (eVar 0) (aCons (eC (.int 6)) aNil))) (eC (.int 0)))))) (sSeq (sSet 3 (eCall m__law_draw (aCons (eVar 0) (aCons (eCB (c1 lenD) (aCons (eVar 1) aNil)) aNil))))
    (sSeq (sSet 4 (eIf (bTru (eIs "list" (eVar 1))) (eLst (aCons (eCall F0 (aCons (eVar 0) (aCons (eBin ixD (eVar 1) (eVar 3)) aNil))) aNil)) (eTup (aCons (eCall F0 (aCons (eVar 0) (aCons (eBin ixD (eVar 1) (eVar 3)) aNil))) aNil))))
    (sRet (eBin addD (eBin addD (eSl (eVar 1) oNo (oYes (eVar 3))) (eVar 4)) (eSl (eVar 1) (oYes (eBin addD (eVar 3) (eC (.int 1)))) oNo))))) sNil)
    (sSeq (sSet 2 (eCall m__law_draw (aCons (eVar 0) (aCons (eC (.int 8)) aNil))))
    (sSeq (sIf (bOf (eBinF eqD (eVar 2) (eC (.int 0)))) (sRet (eCall (m__law_anything fuel__law_anything) (aCons (eVar 0) (aCons (eC (.int 1)) aNil)))) sNil)
    (sSeq (sIf (bTru (eIs "int" (eVar 1))) (sRet (eBin ixD (eLst (aCons (eBin addD (eVar 1) (eC (.int 1))) (aCons (eBin subD (eVar 1) (eC (.int 1))) (aCons (eBin subD (eC (.int 0)) (eVar 1)) (aCons (eC (.int 0)) (aCons (eC (.int 1)) (aCons (eBin powD (eC (.int 10)) (eC (.int 18))) (aCons (eBin mulD' (eC (.int 2)) (eVar 1)) aNil)))))))) (eBin subD (eVar 2) (eC (.int 1))))) sNil)
    (sSeq (sIf (bTru (eIs2 "list" "tuple" (eVar 1))) (sRet (eBin ixD (eLst (aCons (eSl (eVar 1) (oYes (eC (.int 1))) oNo) (aCons (eSl (eVar 1) oNo (oYes (eNeg (eC (.int 1))))) (aCons (eBin addD (eVar 1) (eSl (eVar 1) (oYes (eNeg (eC (.int 1)))) oNo)) (aCons (eRev (eVar 1)) (aCons (eCB (c1 listD) (aCons (eVar 1) aNil)) (aCons (eCB (c1 tupleD) (aCons (eVar 1) aNil)) (aCons (eBin mulD' (eVar 1) (eC (.int 2))) aNil)))))))) (eBin subD (eVar 2) (eC (.int 1))))) sNil)
    (sRet (eBin ixD (eLst (aCons (eC .none) (aCons (eC (.str "a")) (aCons (eC (.str "wind")) (aCons (eC (.str "turn")) (aCons (eC (.str "piece")) (aCons (eC (.int 1)) (aCons (eTup aNil) aNil)))))))) (eBin subD (eVar 2) (eC (.int 1))))))))))
noncomputable def m__law_bent : Nat → MF
  | 0 => fun _ _ => none
  | n + 1 => fnM 2 5 (b__law_bent (m__law_bent n))
theorem ok__law_bent {a : Addr} {fd : FuncData} (F : Fun K "_law_bent" "_law_bent" s__law_bent a fd) (M : mg "_law_bent" = some (.ref a)) (T : Tx mg) (H__law_draw : Has P w K mg base "_law_draw" 1 ["pen", "many"] m__law_draw) (H__law_anything : Has P w K mg base "_law_anything" 7 ["pen", "deep"] (m__law_anything fuel__law_anything)) : ∀ n : Nat, Has P w K mg base "_law_bent" (7 + n) ["pen", "thing"] (m__law_bent n)
  | 0 => ⟨a, fd, fng_none, M, F.kp, (F.binds (ps := ["pen", "thing"]) fun _ _ _ _ _ _ us hl => match us, hl with | [_, _], _ => rfl)⟩
  | n + 1 => by
    have self : Has P w K mg base "_law_bent" (7 + n) ["pen", "thing"] (m__law_bent n) := ok__law_bent F M T H__law_draw H__law_anything n
    have S := sc__law_bent
    have e : m__law_bent (n + 1) = fnM 2 5 (b__law_bent (m__law_bent n)) := rfl
    rw [e]
    refine ⟨a, fd, fng2 (k := 7 + n) (b := b__law_bent (m__law_bent n)) F S rfl rfl (by decide) ?_, M, F.kp, (F.binds (ps := ["pen", "thing"]) fun _ _ _ _ _ _ us hl => match us, hl with | [_, _], _ => rfl)⟩
    intro cdv A outer s H gd hr
    have rm := hr
    exact (qs_cons (q_if (PW.pt (q_tand (q_tru (q_isi2 rfl T.b_isinstance rfl T.b_list (by decide +kernel) rfl T.b_tuple (by decide +kernel) (q_var (pv 1)))) (q_tand (q_tcmp od_gt (q_callB cd_len rfl T.b_len (by decide +kernel) (qa_cons (q_var (pv 1)) qa_nil)) q_int) (q_tand1 (q_tcmp od_gt (q_callH (H__law_draw.up (by omega)) gd rm rfl (qa_cons (q_var (pv 0)) (qa_cons q_int qa_nil))) q_int))))) (qs_cons (q_set (i := 3) S.nd rfl (by first | exact Or.inl rfl | exact Or.inr rfl) (q_callH (H__law_draw.up (by omega)) gd rm rfl (qa_cons (q_var (pv 0)) (qa_cons (q_callB cd_len rfl T.b_len (by decide +kernel) (qa_cons (q_var (pv 1)) qa_nil)) qa_nil))))
      (qs_cons (q_set (i := 4) S.nd rfl (by first | exact Or.inl rfl | exact Or.inr rfl) (q_ifExp (q_tru (q_isi rfl T.b_isinstance rfl T.b_list (by decide +kernel) (q_var (pv 1)))) (q_lst (qa_cons (q_callH self gd rm rfl (qa_cons (q_var (pv 0)) (qa_cons (q_ix (q_var (pv 1)) (q_var (pv 3))) qa_nil))) qa_nil)) (q_tup (qa_cons (q_callH self gd rm rfl (qa_cons (q_var (pv 0)) (qa_cons (q_ix (q_var (pv 1)) (q_var (pv 3))) qa_nil))) qa_nil))))
      (qs_one (q_ret (q_bin od_add (q_bin od_add (q_slice (q_var (pv 1)) q_no (q_yes (q_var (pv 3)))) (q_var (pv 4))) (q_slice (q_var (pv 1)) (q_yes (q_bin od_add (q_var (pv 3)) q_int)) q_no)))))) qs_nil)
      (qs_cons (q_set (i := 2) S.nd rfl (by first | exact Or.inl rfl | exact Or.inr rfl) (q_callH (H__law_draw.up (by omega)) gd rm rfl (qa_cons (q_var (pv 0)) (qa_cons q_int qa_nil))))
      (qs_cons (q_if (q_tcmpF (od_eq (room64 hr)) (q_var (pv 2)) q_int) (qs_one (q_ret (q_callH (H__law_anything.up (by omega)) gd rm rfl (qa_cons (q_var (pv 0)) (qa_cons q_int qa_nil))))) qs_nil)
      (qs_cons (q_if (q_tru (q_isi rfl T.b_isinstance rfl T.b_int (by decide +kernel) (q_var (pv 1)))) (qs_one (q_ret (q_ix (q_lst (qa_cons (q_bin od_add (q_var (pv 1)) q_int) (qa_cons (q_bin od_sub (q_var (pv 1)) q_int) (qa_cons (q_bin od_sub q_int (q_var (pv 1))) (qa_cons q_int (qa_cons q_int (qa_cons (q_bin od_pow q_int q_int) (qa_cons (q_bin od_mul' q_int (q_var (pv 1))) qa_nil)))))))) (q_bin od_sub (q_var (pv 2)) q_int)))) qs_nil)
      (qs_cons (q_if (q_tru (q_isi2 rfl T.b_isinstance rfl T.b_list (by decide +kernel) rfl T.b_tuple (by decide +kernel) (q_var (pv 1)))) (qs_one (q_ret (q_ix (q_lst (qa_cons (q_slice (q_var (pv 1)) (q_yes q_int) q_no) (qa_cons (q_slice (q_var (pv 1)) q_no (q_yes (q_neg q_int))) (qa_cons (q_bin od_add (q_var (pv 1)) (q_slice (q_var (pv 1)) (q_yes (q_neg q_int)) q_no)) (qa_cons (q_rev (q_var (pv 1))) (qa_cons (q_callTy cd_list rfl T.b_list (by decide +kernel) (qa_cons (q_var (pv 1)) qa_nil)) (qa_cons (q_callTy cd_tuple rfl T.b_tuple (by decide +kernel) (qa_cons (q_var (pv 1)) qa_nil)) (qa_cons (q_bin od_mul' (q_var (pv 1)) q_int) qa_nil)))))))) (q_bin od_sub (q_var (pv 2)) q_int)))) qs_nil)
      (qs_one (q_ret (q_ix (q_lst (qa_cons q_non (qa_cons q_str (qa_cons q_str (qa_cons q_str (qa_cons q_str (qa_cons q_int (qa_cons (q_tup qa_nil) qa_nil)))))))) (q_bin od_sub (q_var (pv 2)) q_int)))))))))
end
end Lw
set_option Elab.async false
set_option linter.all false
set_option maxRecDepth 100000
set_option maxHeartbeats 8000000
namespace Lw
open PySem PySem.Spec PyProof.Rows L2 DL
section
variable {P : Program} {w : World} {K : Frg} {mg : Str → Option Value} {base : Heap}
/-! ### _law_turned -/
abbrev s__law_turned : Stmt := topS 30
abbrev N__law_turned : List Str := ["row", "word", "first", "many", "way"]
theorem sc__law_turned : FnScope N__law_turned ["row"] (defScope s__law_turned) := ⟨rfl, rfl, rfl, by decide +kernel, rfl, by decide +kernel, by decide +kernel⟩
noncomputable def b__law_turned : MS :=
  (sRet (eCall m__law_joined (aCons (eFrz (eLc (iAny (eRev (eCB (c1 listD) (aCons (eVar 0) aNil)))) (gTp [1, 2, 3, 4]) cYes (eTup (aCons (eVar 1) (aCons (eBin addD (eVar 2) (eBin mulD' (eVar 4) (eBin subD (eVar 3) (eC (.int 1))))) (aCons (eVar 3) (aCons (eBin subD (eC (.int 0)) (eVar 4)) aNil))))) [1, 2, 3, 4])) aNil)))
noncomputable def m__law_turned : MF := fnM 1 5 b__law_turned
theorem fn__law_turned {a : Addr} {fd : FuncData} (F : Fun K "_law_turned" "_law_turned" s__law_turned a fd) (T : Tx mg) (H__law_joined : Has P w K mg base "_law_joined" 1 ["row"] m__law_joined) : FnG P w K mg base 2 a fd ["row"] m__law_turned := by
  have S := sc__law_turned
  unfold m__law_turned
  refine fng2 (k := 1) (b := b__law_turned) F S rfl rfl (by decide) ?_
  intro cdv A outer s H gd hr
  exact (qs_one (q_ret (q_callH (H__law_joined.up (by decide)) gd hr rfl (qa_cons (q_frz (q_lc (own := [("word", 1), ("first", 2), ("many", 3), ("way", 4)]) (g := (gTp [1, 2, 3, 4])) (c := cYes) (f := (eTup (aCons (eVar 1) (aCons (eBin addD (eVar 2) (eBin mulD' (eVar 4) (eBin subD (eVar 3) (eC (.int 1))))) (aCons (eVar 3) (aCons (eBin subD (eC (.int 0)) (eVar 4)) aNil)))))) rfl S.nd (q_iany (q_rev (q_callTy cd_list rfl T.b_list (by decide +kernel) (qa_cons (q_var (pv 0)) qa_nil)))) (blkOk_by (N := N__law_turned) (sc := defScope s__law_turned) (by decide +kernel)) (fun _ _ _ _ _ => (q_gtup (vs := [1, 2, 3, 4]) rfl (q_gcons (vs := [1, 2, 3, 4]) (i := 1) S.nd rfl (by first | exact Or.inl rfl | exact Or.inr rfl) (q_gcons (vs := [1, 2, 3, 4]) (i := 2) S.nd rfl (by first | exact Or.inl rfl | exact Or.inr rfl) (q_gcons (vs := [1, 2, 3, 4]) (i := 3) S.nd rfl (by first | exact Or.inl rfl | exact Or.inr rfl) (q_gcons (vs := [1, 2, 3, 4]) (i := 4) S.nd rfl (by first | exact Or.inl rfl | exact Or.inr rfl) q_gnil (by decide)) (by decide)) (by decide)) (by decide)))) (fun _ _ _ _ _ => q_tsnil) (fun _ _ _ _ _ => (q_tup (qa_cons (q_var (pv 1)) (qa_cons (q_bin od_add (q_var (pv 2)) (q_bin od_mul' (q_var (pv 4)) (q_bin od_sub (q_var (pv 3)) q_int))) (qa_cons (q_var (pv 3)) (qa_cons (q_bin od_sub q_int (q_var (pv 4))) qa_nil)))))))) qa_nil))))
theorem ok__law_turned {a : Addr} {fd : FuncData} (F : Fun K "_law_turned" "_law_turned" s__law_turned a fd) (M : mg "_law_turned" = some (.ref a)) (T : Tx mg) (H__law_joined : Has P w K mg base "_law_joined" 1 ["row"] m__law_joined) : Has P w K mg base "_law_turned" 2 ["row"] m__law_turned :=
  ⟨a, fd, fn__law_turned F T H__law_joined, M, F.kp, (F.binds (ps := ["row"]) fun _ _ _ _ _ _ us hl => match us, hl with | [_], _ => rfl)⟩
end
end Lw
set_option Elab.async false
set_option linter.all false
set_option maxRecDepth 100000
set_option maxHeartbeats 8000000
namespace Lw
open PySem PySem.Spec PyProof.Rows L2 DL
section
variable {P : Program} {w : World} {K : Frg} {mg : Str → Option Value} {base : Heap}
/-! ### law -/
abbrev s_law : Stmt := topS 31
abbrev N_law : List Str := ["script", "pen", "words", "turn", "row", "thing", "again", "found", "handed", "due", "told", "stretch"]
theorem sc_law : FnScope N_law ["script"] (defScope s_law) := ⟨rfl, rfl, rfl, by decide +kernel, rfl, by decide +kernel, by decide +kernel⟩
noncomputable def b_law : MS :=
  (sSeq (sSet 1 (eCall m__law_pen (aCons (eVar 0) aNil)))
    (sSeq (sSet 2 (eCall m__law_words (aCons (eVar 1) (aCons (eC (.int 3)) aNil))))
    (sSeq (sFor (iRg1 (eC (.int 10))) (gNm 3) (sSeq (sSet 4 (eFrz (eCall m__law_long_row (aCons (eVar 1) (aCons (eVar 2) (aCons (eC (.int 6)) aNil))))))
    (sSeq (sSet 5 (eCall m__law_pick (aCons (eVar 1) (aCons (eBin addD (eBin addD (eLst (aCons (eVar 4) (aCons (eCB (c1 tupleD) (aCons (eVar 4) aNil)) (aCons (eCall (m__law_anything fuel__law_anything) (aCons (eVar 1) (aCons (eC (.int 2)) aNil))) aNil)))) (eSl (eVar 4) oNo (oYes (eC (.int 1))))) (eSl (eVar 4) (oYes (eC (.int 1))) (oYes (eC (.int 2))))) aNil))))
    (sSeq (sFor (iRg1 (eCall m__law_draw (aCons (eVar 1) (aCons (eC (.int 3)) aNil)))) (gNm 6) (sSet 5 (eCall (m__law_bent fuel__law_bent) (aCons (eVar 1) (aCons (eVar 5) aNil)))))
    (sSeq (sSet 7 (eTup (aCons (eCall m_is_row (aCons (eVar 5) aNil)) (aCons (eCall m_is_stretch (aCons (eVar 5) aNil)) (aCons (eCall m_is_word (aCons (eVar 5) aNil)) aNil)))))
    (sSeq (sIf (bOf (eBinF neD (eCB (c1F reprD) (aCons (eVar 7) aNil)) (eCB (c1F reprD) (aCons (eTup (aCons (eCall m__law_is_row (aCons (eVar 5) aNil)) (aCons (eCall m__law_is_yards (aCons (eVar 5) aNil)) (aCons (eCall m__law_is_word (aCons (eVar 5) aNil)) aNil)))) aNil)))) (sRet (eC (.bool false))) sNil)
    (sSeq (sSet 8 (eCall m__law_pick (aCons (eVar 1) (aCons (eLst (aCons (eVar 4) (aCons (eCB (c1 tupleD) (aCons (eVar 4) aNil)) aNil))) aNil))))
    (sSeq (sSet 9 (eTup (aCons (eFrz (eCall m__law_joined (aCons (eVar 4) aNil))) (aCons (eCB (c1 sumD) (aCons (eFrz (eLc (iAny (eVar 4)) (gNm 11) cYes (eBin ixD (eVar 11) (eC (.int 2))) [11])) aNil)) (aCons (eFrz (eCall m__law_turned (aCons (eVar 4) aNil))) aNil)))))
    (sFor (iRg1 (eC (.int 2))) (gNm 6) (sSeq (sSet 10 (eTupT (aCons (eCall m_joined (aCons (eVar 8) aNil)) (aCons (eCall m_yards (aCons (eVar 8) aNil)) (aCons (eCall m_turned (aCons (eVar 8) aNil)) aNil)))))
    (sSeq (sIf (bOr (bOf (eBinF neD (eCB (c1F reprD) (aCons (eVar 10) aNil)) (eCB (c1F reprD) (aCons (eVar 9) aNil)))) (bOr (bOf (eBinF neD (eCB (c1F reprD) (aCons (eCB (c1 listD) (aCons (eVar 8) aNil)) aNil)) (eCB (c1F reprD) (aCons (eVar 4) aNil)))) (bOf (eBinF neD (eFrz (eCall m_turned (aCons (eIxT (eVar 10) 2) aNil))) (eIxT (eVar 10) 0))))) (sRet (eC (.bool false))) sNil)
    (sSeq (sEx (eApp (eIxT (eVar 10) 0) (eC .none)))
    (sEx (eApp (eIxT (eVar 10) 2) (eC .none)))))))))))))))
    (sRet (eAnd (eBinF eqD (eFrz (eCall m_joined (aCons (eLst aNil) aNil))) (eLst aNil)) (eAnd (eBinF eqD (eFrz (eCall m_turned (aCons (eTup aNil) aNil))) (eLst aNil)) (eBinF eqD (eCall m_yards (aCons (eLst aNil) aNil)) (eC (.int 0)))))))))
noncomputable def m_law : MF := fnM 1 12 b_law
theorem fn_law {a : Addr} {fd : FuncData} (F : Fun K "law" "law" s_law a fd) (T : Tx mg) (H_is_word : Has P w K mg base "is_word" 1 ["thing"] m_is_word) (H_is_stretch : Has P w K mg base "is_stretch" 3 ["thing"] m_is_stretch) (H_is_row : Has P w K mg base "is_row" 4 ["thing"] m_is_row) (H_joined : Has P w K mg base "joined" 3 ["row"] m_joined) (H_yards : Has P w K mg base "yards" 1 ["row"] m_yards) (H_turned : Has P w K mg base "turned" 4 ["row"] m_turned) (H__law_pen : Has P w K mg base "_law_pen" 1 ["script"] m__law_pen) (H__law_draw : Has P w K mg base "_law_draw" 1 ["pen", "many"] m__law_draw) (H__law_pick : Has P w K mg base "_law_pick" 2 ["pen", "some"] m__law_pick) (H__law_words : Has P w K mg base "_law_words" 3 ["pen", "many"] m__law_words) (H__law_anything : Has P w K mg base "_law_anything" 7 ["pen", "deep"] (m__law_anything fuel__law_anything)) (H__law_is_word : Has P w K mg base "_law_is_word" 1 ["thing"] m__law_is_word) (H__law_is_yards : Has P w K mg base "_law_is_yards" 2 ["thing"] m__law_is_yards) (H__law_is_row : Has P w K mg base "_law_is_row" 3 ["thing"] m__law_is_row) (H__law_long_row : Has P w K mg base "_law_long_row" 3 ["pen", "words", "most"] m__law_long_row) (H__law_joined : Has P w K mg base "_law_joined" 1 ["row"] m__law_joined) (H__law_bent : Has P w K mg base "_law_bent" 19 ["pen", "thing"] (m__law_bent fuel__law_bent)) (H__law_turned : Has P w K mg base "_law_turned" 2 ["row"] m__law_turned) : FnG P w K mg base 20 a fd ["script"] m_law := by
  have S := sc_law
  unfold m_law
  refine fng2 (k := 19) (b := b_law) F S rfl rfl (by decide) ?_
  intro cdv A outer s H gd hr
  exact (qs_cons (q_set (i := 1) S.nd rfl (by first | exact Or.inl rfl | exact Or.inr rfl) (q_callH (H__law_pen.up (by decide)) gd hr rfl (qa_cons (q_var (pv 0)) qa_nil)))
      (qs_cons (q_set (i := 2) S.nd rfl (by first | exact Or.inl rfl | exact Or.inr rfl) (q_callH (H__law_words.up (by decide)) gd hr rfl (qa_cons (q_var (pv 1)) (qa_cons q_int qa_nil))))
      (qs_cons (q_for PassesOwn.never rfl (q_irng1 rfl T.b_range q_int) (q_gname (vs := [3]) (i := 3) S.nd rfl (by first | exact Or.inl rfl | exact Or.inr rfl) (by decide)) (qs_cons (q_set (i := 4) S.nd rfl (by first | exact Or.inl rfl | exact Or.inr rfl) (q_frz (q_callH (H__law_long_row.up (by decide)) gd hr rfl (qa_cons (q_var (pv 1)) (qa_cons (q_var (pv 2)) (qa_cons q_int qa_nil))))))
      (qs_cons (q_set (i := 5) S.nd rfl (by first | exact Or.inl rfl | exact Or.inr rfl) (q_callH (H__law_pick.up (by decide)) gd hr rfl (qa_cons (q_var (pv 1)) (qa_cons (q_bin od_add (q_bin od_add (q_lst (qa_cons (q_var (pv 4)) (qa_cons (q_callTy cd_tuple rfl T.b_tuple (by decide +kernel) (qa_cons (q_var (pv 4)) qa_nil)) (qa_cons (q_callH (H__law_anything.up (by decide)) gd hr rfl (qa_cons (q_var (pv 1)) (qa_cons q_int qa_nil))) qa_nil)))) (q_slice (q_var (pv 4)) q_no (q_yes q_int))) (q_slice (q_var (pv 4)) (q_yes q_int) (q_yes q_int))) qa_nil))))
      (qs_cons (q_for PassesOwn.never rfl (q_irng1 rfl T.b_range (q_callH (H__law_draw.up (by decide)) gd hr rfl (qa_cons (q_var (pv 1)) (qa_cons q_int qa_nil)))) (q_gname (vs := [6]) (i := 6) S.nd rfl (by first | exact Or.inl rfl | exact Or.inr rfl) (by decide)) (qs_one (q_set (i := 5) S.nd rfl (by first | exact Or.inl rfl | exact Or.inr rfl) (q_callH (H__law_bent.up (by decide)) gd hr rfl (qa_cons (q_var (pv 1)) (qa_cons (q_var (pv 5)) qa_nil))))))
      (qs_cons (q_set (i := 7) S.nd rfl (by first | exact Or.inl rfl | exact Or.inr rfl) (q_tup (qa_cons (q_callH (H_is_row.up (by decide)) gd hr rfl (qa_cons (q_var (pv 5)) qa_nil)) (qa_cons (q_callH (H_is_stretch.up (by decide)) gd hr rfl (qa_cons (q_var (pv 5)) qa_nil)) (qa_cons (q_callH (H_is_word.up (by decide)) gd hr rfl (qa_cons (q_var (pv 5)) qa_nil)) qa_nil)))))
      (qs_cons (q_if (q_tcmpF (od_ne (room64 hr)) (q_callB (cd_repr gd (room65 hr)) rfl T.b_repr (by decide +kernel) (qa_cons (q_var (pv 7)) qa_nil)) (q_callB (cd_repr gd (room65 hr)) rfl T.b_repr (by decide +kernel) (qa_cons (q_tup (qa_cons (q_callH (H__law_is_row.up (by decide)) gd hr rfl (qa_cons (q_var (pv 5)) qa_nil)) (qa_cons (q_callH (H__law_is_yards.up (by decide)) gd hr rfl (qa_cons (q_var (pv 5)) qa_nil)) (qa_cons (q_callH (H__law_is_word.up (by decide)) gd hr rfl (qa_cons (q_var (pv 5)) qa_nil)) qa_nil)))) qa_nil))) (qs_one (q_ret q_bl)) qs_nil)
      (qs_cons (q_set (i := 8) S.nd rfl (by first | exact Or.inl rfl | exact Or.inr rfl) (q_callH (H__law_pick.up (by decide)) gd hr rfl (qa_cons (q_var (pv 1)) (qa_cons (q_lst (qa_cons (q_var (pv 4)) (qa_cons (q_callTy cd_tuple rfl T.b_tuple (by decide +kernel) (qa_cons (q_var (pv 4)) qa_nil)) qa_nil))) qa_nil))))
      (qs_cons (q_set (i := 9) S.nd rfl (by first | exact Or.inl rfl | exact Or.inr rfl) (q_tup (qa_cons (q_frz (q_callH (H__law_joined.up (by decide)) gd hr rfl (qa_cons (q_var (pv 4)) qa_nil))) (qa_cons (q_callB (cd_sum rfl) rfl T.b_sum (by decide +kernel) (qa_cons (q_frz (q_lc (own := [("stretch", 11)]) (g := (gNm 11)) (c := cYes) (f := (eBin ixD (eVar 11) (eC (.int 2)))) rfl S.nd (q_iany (q_var (pv 4))) (blkOk_by (N := N_law) (sc := defScope s_law) (by decide +kernel)) (fun _ _ _ _ _ => (q_gname (vs := [11]) (i := 11) S.nd rfl (by first | exact Or.inl rfl | exact Or.inr rfl) (by decide))) (fun _ _ _ _ _ => q_tsnil) (fun _ _ _ _ _ => (q_ix (q_var (pv 11)) q_int)))) qa_nil)) (qa_cons (q_frz (q_callH (H__law_turned.up (by decide)) gd hr rfl (qa_cons (q_var (pv 4)) qa_nil))) qa_nil)))))
      (qs_one (q_for PassesOwn.never rfl (q_irng1 rfl T.b_range q_int) (q_gname (vs := [6]) (i := 6) S.nd rfl (by first | exact Or.inl rfl | exact Or.inr rfl) (by decide)) (qs_cons (q_set (i := 10) S.nd rfl (by first | exact Or.inl rfl | exact Or.inr rfl) (q_tupT (qa_cons (q_callH (H_joined.up (by decide)) gd hr rfl (qa_cons (q_var (pv 8)) qa_nil)) (qa_cons (q_callH (H_yards.up (by decide)) gd hr rfl (qa_cons (q_var (pv 8)) qa_nil)) (qa_cons (q_callH (H_turned.up (by decide)) gd hr rfl (qa_cons (q_var (pv 8)) qa_nil)) qa_nil)))))
      (qs_cons (q_if (PW.pt (q_tor (q_tcmpF (od_ne (room64 hr)) (q_callB (cd_repr gd (room65 hr)) rfl T.b_repr (by decide +kernel) (qa_cons (q_var (pv 10)) qa_nil)) (q_callB (cd_repr gd (room65 hr)) rfl T.b_repr (by decide +kernel) (qa_cons (q_var (pv 9)) qa_nil))) (q_tor (q_tcmpF (od_ne (room64 hr)) (q_callB (cd_repr gd (room65 hr)) rfl T.b_repr (by decide +kernel) (qa_cons (q_callTy cd_list rfl T.b_list (by decide +kernel) (qa_cons (q_var (pv 8)) qa_nil)) qa_nil)) (q_callB (cd_repr gd (room65 hr)) rfl T.b_repr (by decide +kernel) (qa_cons (q_var (pv 4)) qa_nil))) (q_tor1 (q_tcmpF (od_ne (room64 hr)) (q_frz (q_callH (H_turned.up (by decide)) gd hr rfl (qa_cons (q_ixT (j := 2) (q_var (pv 10))) qa_nil))) (q_ixT (j := 0) (q_var (pv 10)))))))) (qs_one (q_ret q_bl)) qs_nil)
      (qs_cons (q_expr (q_app (q_ixT (j := 0) (q_var (pv 10))) q_non))
      (qs_one (q_expr (q_app (q_ixT (j := 2) (q_var (pv 10))) q_non))))))))))))))))
      (qs_one (q_ret (q_and (q_cmpF (od_eq (room64 hr)) (q_frz (q_callH (H_joined.up (by decide)) gd hr rfl (qa_cons (q_lst qa_nil) qa_nil))) (q_lst qa_nil)) (q_and (q_cmpF (od_eq (room64 hr)) (q_frz (q_callH (H_turned.up (by decide)) gd hr rfl (qa_cons (q_tup qa_nil) qa_nil))) (q_lst qa_nil)) (q_one (q_cmpF (od_eq (room64 hr)) (q_callH (H_yards.up (by decide)) gd hr rfl (qa_cons (q_lst qa_nil) qa_nil)) q_int)))))))))
theorem ok_law {a : Addr} {fd : FuncData} (F : Fun K "law" "law" s_law a fd) (M : mg "law" = some (.ref a)) (T : Tx mg) (H_is_word : Has P w K mg base "is_word" 1 ["thing"] m_is_word) (H_is_stretch : Has P w K mg base "is_stretch" 3 ["thing"] m_is_stretch) (H_is_row : Has P w K mg base "is_row" 4 ["thing"] m_is_row) (H_joined : Has P w K mg base "joined" 3 ["row"] m_joined) (H_yards : Has P w K mg base "yards" 1 ["row"] m_yards) (H_turned : Has P w K mg base "turned" 4 ["row"] m_turned) (H__law_pen : Has P w K mg base "_law_pen" 1 ["script"] m__law_pen) (H__law_draw : Has P w K mg base "_law_draw" 1 ["pen", "many"] m__law_draw) (H__law_pick : Has P w K mg base "_law_pick" 2 ["pen", "some"] m__law_pick) (H__law_words : Has P w K mg base "_law_words" 3 ["pen", "many"] m__law_words) (H__law_anything : Has P w K mg base "_law_anything" 7 ["pen", "deep"] (m__law_anything fuel__law_anything)) (H__law_is_word : Has P w K mg base "_law_is_word" 1 ["thing"] m__law_is_word) (H__law_is_yards : Has P w K mg base "_law_is_yards" 2 ["thing"] m__law_is_yards) (H__law_is_row : Has P w K mg base "_law_is_row" 3 ["thing"] m__law_is_row) (H__law_long_row : Has P w K mg base "_law_long_row" 3 ["pen", "words", "most"] m__law_long_row) (H__law_joined : Has P w K mg base "_law_joined" 1 ["row"] m__law_joined) (H__law_bent : Has P w K mg base "_law_bent" 19 ["pen", "thing"] (m__law_bent fuel__law_bent)) (H__law_turned : Has P w K mg base "_law_turned" 2 ["row"] m__law_turned) : Has P w K mg base "law" 20 ["script"] m_law :=
  ⟨a, fd, fn_law F T H_is_word H_is_stretch H_is_row H_joined H_yards H_turned H__law_pen H__law_draw H__law_pick H__law_words H__law_anything H__law_is_word H__law_is_yards H__law_is_row H__law_long_row H__law_joined H__law_bent H__law_turned, M, F.kp, (F.binds (ps := ["script"]) fun _ _ _ _ _ _ us hl => match us, hl with | [_], _ => rfl)⟩
end
end Lw
set_option Elab.async false
set_option linter.all false
set_option maxRecDepth 100000
set_option maxHeartbeats 8000000
namespace Lw
open PySem PySem.Spec PyProof.Rows L2 DL
theorem all_mk {l : PySem.W.OpenLaw} {w : World} {K : Frg} {h : Heap} {mg : Str → Option Value} {fa : Addr} (X : K.In h) (Gm : h.Ns mainGlobals mg) (hfa : mg "law" = some (.ref fa))
    {f0 : Addr} {od0 an0 : Option Addr} {sl0 : Array (Option Value)} {oc0 kV0 dc0 pm0 cd0 ct0 : Value}
    (a0 : PySem.W.nsIn K mainGlobals "is_whole" = some (some (.ref f0))) (l0 : K.lookup f0 = some ⟨oc0, od0, .func (PySem.W.fnOf "is_whole" "is_whole" (defArgs s_is_whole) (defBody s_is_whole) (defScope s_is_whole) .none kV0 dc0 pm0 an0 cd0 ct0), sl0⟩) (c0 : PySem.W.codeIn K cd0 "is_whole" = true) (k0 : PySem.W.keepIn K (.ref f0) = true)
    {f1 : Addr} {od1 an1 : Option Addr} {sl1 : Array (Option Value)} {oc1 kV1 dc1 pm1 cd1 ct1 : Value}
    (a1 : PySem.W.nsIn K mainGlobals "is_from_to" = some (some (.ref f1))) (l1 : K.lookup f1 = some ⟨oc1, od1, .func (PySem.W.fnOf "is_from_to" "is_from_to" (defArgs s_is_from_to) (defBody s_is_from_to) (defScope s_is_from_to) .none kV1 dc1 pm1 an1 cd1 ct1), sl1⟩) (c1 : PySem.W.codeIn K cd1 "is_from_to" = true) (k1 : PySem.W.keepIn K (.ref f1) = true)
    {f2 : Addr} {od2 an2 : Option Addr} {sl2 : Array (Option Value)} {oc2 kV2 dc2 pm2 cd2 ct2 : Value}
    (a2 : PySem.W.nsIn K mainGlobals "is_word" = some (some (.ref f2))) (l2 : K.lookup f2 = some ⟨oc2, od2, .func (PySem.W.fnOf "is_word" "is_word" (defArgs s_is_word) (defBody s_is_word) (defScope s_is_word) .none kV2 dc2 pm2 an2 cd2 ct2), sl2⟩) (c2 : PySem.W.codeIn K cd2 "is_word" = true) (k2 : PySem.W.keepIn K (.ref f2) = true)
    {f3 : Addr} {od3 an3 : Option Addr} {sl3 : Array (Option Value)} {oc3 kV3 dc3 pm3 cd3 ct3 : Value}
    (a3 : PySem.W.nsIn K mainGlobals "is_stretch" = some (some (.ref f3))) (l3 : K.lookup f3 = some ⟨oc3, od3, .func (PySem.W.fnOf "is_stretch" "is_stretch" (defArgs s_is_stretch) (defBody s_is_stretch) (defScope s_is_stretch) .none kV3 dc3 pm3 an3 cd3 ct3), sl3⟩) (c3 : PySem.W.codeIn K cd3 "is_stretch" = true) (k3 : PySem.W.keepIn K (.ref f3) = true)
    {f4 : Addr} {od4 an4 : Option Addr} {sl4 : Array (Option Value)} {oc4 kV4 dc4 pm4 cd4 ct4 : Value}
    (a4 : PySem.W.nsIn K mainGlobals "is_row" = some (some (.ref f4))) (l4 : K.lookup f4 = some ⟨oc4, od4, .func (PySem.W.fnOf "is_row" "is_row" (defArgs s_is_row) (defBody s_is_row) (defScope s_is_row) .none kV4 dc4 pm4 an4 cd4 ct4), sl4⟩) (c4 : PySem.W.codeIn K cd4 "is_row" = true) (k4 : PySem.W.keepIn K (.ref f4) = true)
    {f5 : Addr} {od5 an5 : Option Addr} {sl5 : Array (Option Value)} {oc5 kV5 dc5 pm5 cd5 ct5 : Value}
    (a5 : PySem.W.nsIn K mainGlobals "last_number" = some (some (.ref f5))) (l5 : K.lookup f5 = some ⟨oc5, od5, .func (PySem.W.fnOf "last_number" "last_number" (defArgs s_last_number) (defBody s_last_number) (defScope s_last_number) .none kV5 dc5 pm5 an5 cd5 ct5), sl5⟩) (c5 : PySem.W.codeIn K cd5 "last_number" = true) (k5 : PySem.W.keepIn K (.ref f5) = true)
    {f6 : Addr} {od6 an6 : Option Addr} {sl6 : Array (Option Value)} {oc6 kV6 dc6 pm6 cd6 ct6 : Value}
    (a6 : PySem.W.nsIn K mainGlobals "joined" = some (some (.ref f6))) (l6 : K.lookup f6 = some ⟨oc6, od6, .func (PySem.W.fnOf "joined" "joined" (defArgs s_joined) (defBody s_joined) (defScope s_joined) .none kV6 dc6 pm6 an6 cd6 ct6), sl6⟩) (c6 : PySem.W.codeIn K cd6 "joined" = true) (k6 : PySem.W.keepIn K (.ref f6) = true)
    {f7 : Addr} {od7 an7 : Option Addr} {sl7 : Array (Option Value)} {oc7 kV7 dc7 pm7 cd7 ct7 : Value}
    (a7 : PySem.W.nsIn K mainGlobals "_goes_on" = some (some (.ref f7))) (l7 : K.lookup f7 = some ⟨oc7, od7, .func (PySem.W.fnOf "_goes_on" "_goes_on" (defArgs s__goes_on) (defBody s__goes_on) (defScope s__goes_on) .none kV7 dc7 pm7 an7 cd7 ct7), sl7⟩) (c7 : PySem.W.codeIn K cd7 "_goes_on" = true) (k7 : PySem.W.keepIn K (.ref f7) = true)
    {f8 : Addr} {od8 an8 : Option Addr} {sl8 : Array (Option Value)} {oc8 kV8 dc8 pm8 cd8 ct8 : Value}
    (a8 : PySem.W.nsIn K mainGlobals "yards" = some (some (.ref f8))) (l8 : K.lookup f8 = some ⟨oc8, od8, .func (PySem.W.fnOf "yards" "yards" (defArgs s_yards) (defBody s_yards) (defScope s_yards) .none kV8 dc8 pm8 an8 cd8 ct8), sl8⟩) (c8 : PySem.W.codeIn K cd8 "yards" = true) (k8 : PySem.W.keepIn K (.ref f8) = true)
    {f9 : Addr} {od9 an9 : Option Addr} {sl9 : Array (Option Value)} {oc9 kV9 dc9 pm9 cd9 ct9 : Value}
    (a9 : PySem.W.nsIn K mainGlobals "turned" = some (some (.ref f9))) (l9 : K.lookup f9 = some ⟨oc9, od9, .func (PySem.W.fnOf "turned" "turned" (defArgs s_turned) (defBody s_turned) (defScope s_turned) .none kV9 dc9 pm9 an9 cd9 ct9), sl9⟩) (c9 : PySem.W.codeIn K cd9 "turned" = true) (k9 : PySem.W.keepIn K (.ref f9) = true)
    {f10 : Addr} {od10 an10 : Option Addr} {sl10 : Array (Option Value)} {oc10 kV10 dc10 pm10 cd10 ct10 : Value}
    (a10 : PySem.W.nsIn K mainGlobals "about" = some (some (.ref f10))) (l10 : K.lookup f10 = some ⟨oc10, od10, .func (PySem.W.fnOf "about" "about" (defArgs s_about) (defBody s_about) (defScope s_about) .none kV10 dc10 pm10 an10 cd10 ct10), sl10⟩) (c10 : PySem.W.codeIn K cd10 "about" = true) (k10 : PySem.W.keepIn K (.ref f10) = true)
    {f11 : Addr} {od11 an11 : Option Addr} {sl11 : Array (Option Value)} {oc11 kV11 dc11 pm11 cd11 ct11 : Value}
    (a11 : PySem.W.nsIn K mainGlobals "_law_pen" = some (some (.ref f11))) (l11 : K.lookup f11 = some ⟨oc11, od11, .func (PySem.W.fnOf "_law_pen" "_law_pen" (defArgs s__law_pen) (defBody s__law_pen) (defScope s__law_pen) .none kV11 dc11 pm11 an11 cd11 ct11), sl11⟩) (c11 : PySem.W.codeIn K cd11 "_law_pen" = true) (k11 : PySem.W.keepIn K (.ref f11) = true)
    {f12 : Addr} {od12 an12 : Option Addr} {sl12 : Array (Option Value)} {oc12 kV12 dc12 pm12 cd12 ct12 : Value}
    (a12 : PySem.W.nsIn K mainGlobals "_law_draw" = some (some (.ref f12))) (l12 : K.lookup f12 = some ⟨oc12, od12, .func (PySem.W.fnOf "_law_draw" "_law_draw" (defArgs s__law_draw) (defBody s__law_draw) (defScope s__law_draw) .none kV12 dc12 pm12 an12 cd12 ct12), sl12⟩) (c12 : PySem.W.codeIn K cd12 "_law_draw" = true) (k12 : PySem.W.keepIn K (.ref f12) = true)
    {f13 : Addr} {od13 an13 : Option Addr} {sl13 : Array (Option Value)} {oc13 kV13 dc13 pm13 cd13 ct13 : Value}
    (a13 : PySem.W.nsIn K mainGlobals "_law_pick" = some (some (.ref f13))) (l13 : K.lookup f13 = some ⟨oc13, od13, .func (PySem.W.fnOf "_law_pick" "_law_pick" (defArgs s__law_pick) (defBody s__law_pick) (defScope s__law_pick) .none kV13 dc13 pm13 an13 cd13 ct13), sl13⟩) (c13 : PySem.W.codeIn K cd13 "_law_pick" = true) (k13 : PySem.W.keepIn K (.ref f13) = true)
    {f14 : Addr} {od14 an14 : Option Addr} {sl14 : Array (Option Value)} {oc14 kV14 dc14 pm14 cd14 ct14 : Value}
    (a14 : PySem.W.nsIn K mainGlobals "_law_great" = some (some (.ref f14))) (l14 : K.lookup f14 = some ⟨oc14, od14, .func (PySem.W.fnOf "_law_great" "_law_great" (defArgs s__law_great) (defBody s__law_great) (defScope s__law_great) .none kV14 dc14 pm14 an14 cd14 ct14), sl14⟩) (c14 : PySem.W.codeIn K cd14 "_law_great" = true) (k14 : PySem.W.keepIn K (.ref f14) = true)
    {f15 : Addr} {od15 an15 : Option Addr} {sl15 : Array (Option Value)} {oc15 kV15 dc15 pm15 cd15 ct15 : Value}
    (a15 : PySem.W.nsIn K mainGlobals "_law_words" = some (some (.ref f15))) (l15 : K.lookup f15 = some ⟨oc15, od15, .func (PySem.W.fnOf "_law_words" "_law_words" (defArgs s__law_words) (defBody s__law_words) (defScope s__law_words) .none kV15 dc15 pm15 an15 cd15 ct15), sl15⟩) (c15 : PySem.W.codeIn K cd15 "_law_words" = true) (k15 : PySem.W.keepIn K (.ref f15) = true)
    {f16 : Addr} {od16 an16 : Option Addr} {sl16 : Array (Option Value)} {oc16 kV16 dc16 pm16 cd16 ct16 : Value}
    (a16 : PySem.W.nsIn K mainGlobals "_law_anything" = some (some (.ref f16))) (l16 : K.lookup f16 = some ⟨oc16, od16, .func (PySem.W.fnOf "_law_anything" "_law_anything" (defArgs s__law_anything) (defBody s__law_anything) (defScope s__law_anything) .none kV16 dc16 pm16 an16 cd16 ct16), sl16⟩) (c16 : PySem.W.codeIn K cd16 "_law_anything" = true) (k16 : PySem.W.keepIn K (.ref f16) = true)
    {f17 : Addr} {od17 an17 : Option Addr} {sl17 : Array (Option Value)} {oc17 kV17 dc17 pm17 cd17 ct17 : Value}
    (a17 : PySem.W.nsIn K mainGlobals "_law_whole" = some (some (.ref f17))) (l17 : K.lookup f17 = some ⟨oc17, od17, .func (PySem.W.fnOf "_law_whole" "_law_whole" (defArgs s__law_whole) (defBody s__law_whole) (defScope s__law_whole) .none kV17 dc17 pm17 an17 cd17 ct17), sl17⟩) (c17 : PySem.W.codeIn K cd17 "_law_whole" = true) (k17 : PySem.W.keepIn K (.ref f17) = true)
    {f18 : Addr} {od18 an18 : Option Addr} {sl18 : Array (Option Value)} {oc18 kV18 dc18 pm18 cd18 ct18 : Value}
    (a18 : PySem.W.nsIn K mainGlobals "_law_is_word" = some (some (.ref f18))) (l18 : K.lookup f18 = some ⟨oc18, od18, .func (PySem.W.fnOf "_law_is_word" "_law_is_word" (defArgs s__law_is_word) (defBody s__law_is_word) (defScope s__law_is_word) .none kV18 dc18 pm18 an18 cd18 ct18), sl18⟩) (c18 : PySem.W.codeIn K cd18 "_law_is_word" = true) (k18 : PySem.W.keepIn K (.ref f18) = true)
    {f19 : Addr} {od19 an19 : Option Addr} {sl19 : Array (Option Value)} {oc19 kV19 dc19 pm19 cd19 ct19 : Value}
    (a19 : PySem.W.nsIn K mainGlobals "_law_is_yards" = some (some (.ref f19))) (l19 : K.lookup f19 = some ⟨oc19, od19, .func (PySem.W.fnOf "_law_is_yards" "_law_is_yards" (defArgs s__law_is_yards) (defBody s__law_is_yards) (defScope s__law_is_yards) .none kV19 dc19 pm19 an19 cd19 ct19), sl19⟩) (c19 : PySem.W.codeIn K cd19 "_law_is_yards" = true) (k19 : PySem.W.keepIn K (.ref f19) = true)
    {f20 : Addr} {od20 an20 : Option Addr} {sl20 : Array (Option Value)} {oc20 kV20 dc20 pm20 cd20 ct20 : Value}
    (a20 : PySem.W.nsIn K mainGlobals "_law_is_row" = some (some (.ref f20))) (l20 : K.lookup f20 = some ⟨oc20, od20, .func (PySem.W.fnOf "_law_is_row" "_law_is_row" (defArgs s__law_is_row) (defBody s__law_is_row) (defScope s__law_is_row) .none kV20 dc20 pm20 an20 cd20 ct20), sl20⟩) (c20 : PySem.W.codeIn K cd20 "_law_is_row" = true) (k20 : PySem.W.keepIn K (.ref f20) = true)
    {f21 : Addr} {od21 an21 : Option Addr} {sl21 : Array (Option Value)} {oc21 kV21 dc21 pm21 cd21 ct21 : Value}
    (a21 : PySem.W.nsIn K mainGlobals "_law_long_row" = some (some (.ref f21))) (l21 : K.lookup f21 = some ⟨oc21, od21, .func (PySem.W.fnOf "_law_long_row" "_law_long_row" (defArgs s__law_long_row) (defBody s__law_long_row) (defScope s__law_long_row) .none kV21 dc21 pm21 an21 cd21 ct21), sl21⟩) (c21 : PySem.W.codeIn K cd21 "_law_long_row" = true) (k21 : PySem.W.keepIn K (.ref f21) = true)
    {f22 : Addr} {od22 an22 : Option Addr} {sl22 : Array (Option Value)} {oc22 kV22 dc22 pm22 cd22 ct22 : Value}
    (a22 : PySem.W.nsIn K mainGlobals "_law_joined" = some (some (.ref f22))) (l22 : K.lookup f22 = some ⟨oc22, od22, .func (PySem.W.fnOf "_law_joined" "_law_joined" (defArgs s__law_joined) (defBody s__law_joined) (defScope s__law_joined) .none kV22 dc22 pm22 an22 cd22 ct22), sl22⟩) (c22 : PySem.W.codeIn K cd22 "_law_joined" = true) (k22 : PySem.W.keepIn K (.ref f22) = true)
    {f23 : Addr} {od23 an23 : Option Addr} {sl23 : Array (Option Value)} {oc23 kV23 dc23 pm23 cd23 ct23 : Value}
    (a23 : PySem.W.nsIn K mainGlobals "_law_bent" = some (some (.ref f23))) (l23 : K.lookup f23 = some ⟨oc23, od23, .func (PySem.W.fnOf "_law_bent" "_law_bent" (defArgs s__law_bent) (defBody s__law_bent) (defScope s__law_bent) .none kV23 dc23 pm23 an23 cd23 ct23), sl23⟩) (c23 : PySem.W.codeIn K cd23 "_law_bent" = true) (k23 : PySem.W.keepIn K (.ref f23) = true)
    {f24 : Addr} {od24 an24 : Option Addr} {sl24 : Array (Option Value)} {oc24 kV24 dc24 pm24 cd24 ct24 : Value}
    (a24 : PySem.W.nsIn K mainGlobals "_law_turned" = some (some (.ref f24))) (l24 : K.lookup f24 = some ⟨oc24, od24, .func (PySem.W.fnOf "_law_turned" "_law_turned" (defArgs s__law_turned) (defBody s__law_turned) (defScope s__law_turned) .none kV24 dc24 pm24 an24 cd24 ct24), sl24⟩) (c24 : PySem.W.codeIn K cd24 "_law_turned" = true) (k24 : PySem.W.keepIn K (.ref f24) = true)
    {f25 : Addr} {od25 an25 : Option Addr} {sl25 : Array (Option Value)} {oc25 kV25 dc25 pm25 cd25 ct25 : Value}
    (a25 : PySem.W.nsIn K mainGlobals "law" = some (some (.ref f25))) (l25 : K.lookup f25 = some ⟨oc25, od25, .func (PySem.W.fnOf "law" "law" (defArgs s_law) (defBody s_law) (defScope s_law) .none kV25 dc25 pm25 an25 cd25 ct25), sl25⟩) (c25 : PySem.W.codeIn K cd25 "law" = true) (k25 : PySem.W.keepIn K (.ref f25) = true)
    (z_abs : PySem.W.nsIn K mainGlobals "abs" = some none)
    (z_all : PySem.W.nsIn K mainGlobals "all" = some none)
    (z_bool : PySem.W.nsIn K mainGlobals "bool" = some none)
    (z_int : PySem.W.nsIn K mainGlobals "int" = some none)
    (z_isinstance : PySem.W.nsIn K mainGlobals "isinstance" = some none)
    (z_len : PySem.W.nsIn K mainGlobals "len" = some none)
    (z_list : PySem.W.nsIn K mainGlobals "list" = some none)
    (z_range : PySem.W.nsIn K mainGlobals "range" = some none)
    (z_repr : PySem.W.nsIn K mainGlobals "repr" = some none)
    (z_reversed : PySem.W.nsIn K mainGlobals "reversed" = some none)
    (z_str : PySem.W.nsIn K mainGlobals "str" = some none)
    (z_sum : PySem.W.nsIn K mainGlobals "sum" = some none)
    (z_tuple : PySem.W.nsIn K mainGlobals "tuple" = some none)
    {t_LAST_NUMBER : Tok} (y_LAST_NUMBER : PySem.W.nsIn K mainGlobals "LAST_NUMBER" = some (some (.int 1000000000000000000 t_LAST_NUMBER)))
    {t_LETTERS : Tok} (y_LETTERS : PySem.W.nsIn K mainGlobals "LETTERS" = some (some (.str (Str.ofString "abcdefghijklmnopqrstuvwxyz") t_LETTERS)))
    {t_LONGEST_WORD : Tok} (y_LONGEST_WORD : PySem.W.nsIn K mainGlobals "LONGEST_WORD" = some (some (.int 8 t_LONGEST_WORD)))
    : ∃ fd : FuncData, (∀ (s : Shared) (v : Value), BindsTo s fd ⟨[v], []⟩ [("script", v)]) ∧ ∀ base : Heap, K.In base → base.Ns mainGlobals mg → FnG l.prog w K mg base 20 fa fd ["script"] m_law := by
  have e := hfa.symm.trans (PySem.W.mg_of X Gm a25)
  cases e
  have T : Tx mg := ⟨PySem.W.mg_none_of X Gm z_abs, PySem.W.mg_none_of X Gm z_all, PySem.W.mg_none_of X Gm z_bool, PySem.W.mg_none_of X Gm z_int, PySem.W.mg_none_of X Gm z_isinstance, PySem.W.mg_none_of X Gm z_len, PySem.W.mg_none_of X Gm z_list, PySem.W.mg_none_of X Gm z_range, PySem.W.mg_none_of X Gm z_repr, PySem.W.mg_none_of X Gm z_reversed, PySem.W.mg_none_of X Gm z_str, PySem.W.mg_none_of X Gm z_sum, PySem.W.mg_none_of X Gm z_tuple, ⟨_, PySem.W.mg_of X Gm y_LAST_NUMBER⟩, ⟨_, PySem.W.mg_of X Gm y_LETTERS⟩, ⟨_, PySem.W.mg_of X Gm y_LONGEST_WORD⟩⟩
  refine ⟨PySem.W.fnOf "law" "law" (defArgs s_law) (defBody s_law) (defScope s_law) .none kV25 dc25 pm25 an25 cd25 ct25, fun s v => .of_eq rfl, fun base _ _ => ?_⟩
  have H_is_whole := ok_is_whole (P := l.prog) (w := w) (base := base) (fun_mk (st := s_is_whole) l0 c0 k0) (PySem.W.mg_of X Gm a0) T 
  have H_is_from_to := ok_is_from_to (P := l.prog) (w := w) (base := base) (fun_mk (st := s_is_from_to) l1 c1 k1) (PySem.W.mg_of X Gm a1) T H_is_whole
  have H_is_word := ok_is_word (P := l.prog) (w := w) (base := base) (fun_mk (st := s_is_word) l2 c2 k2) (PySem.W.mg_of X Gm a2) T 
  have H_last_number := ok_last_number (P := l.prog) (w := w) (base := base) (fun_mk (st := s_last_number) l5 c5 k5) (PySem.W.mg_of X Gm a5) T 
  have H_is_stretch := ok_is_stretch (P := l.prog) (w := w) (base := base) (fun_mk (st := s_is_stretch) l3 c3 k3) (PySem.W.mg_of X Gm a3) T H_is_whole H_is_from_to H_is_word H_last_number
  have H_is_row := ok_is_row (P := l.prog) (w := w) (base := base) (fun_mk (st := s_is_row) l4 c4 k4) (PySem.W.mg_of X Gm a4) T H_is_stretch
  have H__goes_on := ok__goes_on (P := l.prog) (w := w) (base := base) (fun_mk (st := s__goes_on) l7 c7 k7) (PySem.W.mg_of X Gm a7) T H_last_number
  have H_joined := ok_joined (P := l.prog) (w := w) (base := base) (fun_mk (st := s_joined) l6 c6 k6) (PySem.W.mg_of X Gm a6) T H__goes_on
  have H_yards := ok_yards (P := l.prog) (w := w) (base := base) (fun_mk (st := s_yards) l8 c8 k8) (PySem.W.mg_of X Gm a8) T 
  have H_about := ok_about (P := l.prog) (w := w) (base := base) (fun_mk (st := s_about) l10 c10 k10) (PySem.W.mg_of X Gm a10) T H_last_number
  have H_turned := ok_turned (P := l.prog) (w := w) (base := base) (fun_mk (st := s_turned) l9 c9 k9) (PySem.W.mg_of X Gm a9) T H_joined H_about
  have H__law_pen := ok__law_pen (P := l.prog) (w := w) (base := base) (fun_mk (st := s__law_pen) l11 c11 k11) (PySem.W.mg_of X Gm a11) T 
  have H__law_draw := ok__law_draw (P := l.prog) (w := w) (base := base) (fun_mk (st := s__law_draw) l12 c12 k12) (PySem.W.mg_of X Gm a12) T 
  have H__law_pick := ok__law_pick (P := l.prog) (w := w) (base := base) (fun_mk (st := s__law_pick) l13 c13 k13) (PySem.W.mg_of X Gm a13) T H__law_draw
  have H__law_great := ok__law_great (P := l.prog) (w := w) (base := base) (fun_mk (st := s__law_great) l14 c14 k14) (PySem.W.mg_of X Gm a14) T H__law_draw
  have H__law_words := ok__law_words (P := l.prog) (w := w) (base := base) (fun_mk (st := s__law_words) l15 c15 k15) (PySem.W.mg_of X Gm a15) T H__law_draw H__law_pick
  have H__law_anything := ok__law_anything (P := l.prog) (w := w) (base := base) (fun_mk (st := s__law_anything) l16 c16 k16) (PySem.W.mg_of X Gm a16) T H__law_draw fuel__law_anything
  have H__law_whole := ok__law_whole (P := l.prog) (w := w) (base := base) (fun_mk (st := s__law_whole) l17 c17 k17) (PySem.W.mg_of X Gm a17) T 
  have H__law_is_word := ok__law_is_word (P := l.prog) (w := w) (base := base) (fun_mk (st := s__law_is_word) l18 c18 k18) (PySem.W.mg_of X Gm a18) T 
  have H__law_is_yards := ok__law_is_yards (P := l.prog) (w := w) (base := base) (fun_mk (st := s__law_is_yards) l19 c19 k19) (PySem.W.mg_of X Gm a19) T H__law_whole H__law_is_word
  have H__law_is_row := ok__law_is_row (P := l.prog) (w := w) (base := base) (fun_mk (st := s__law_is_row) l20 c20 k20) (PySem.W.mg_of X Gm a20) T H__law_is_yards
  have H__law_long_row := ok__law_long_row (P := l.prog) (w := w) (base := base) (fun_mk (st := s__law_long_row) l21 c21 k21) (PySem.W.mg_of X Gm a21) T H__law_draw H__law_pick H__law_great H__law_is_yards
  have H__law_joined := ok__law_joined (P := l.prog) (w := w) (base := base) (fun_mk (st := s__law_joined) l22 c22 k22) (PySem.W.mg_of X Gm a22) T 
  have H__law_bent := ok__law_bent (P := l.prog) (w := w) (base := base) (fun_mk (st := s__law_bent) l23 c23 k23) (PySem.W.mg_of X Gm a23) T H__law_draw H__law_anything fuel__law_bent
  have H__law_turned := ok__law_turned (P := l.prog) (w := w) (base := base) (fun_mk (st := s__law_turned) l24 c24 k24) (PySem.W.mg_of X Gm a24) T H__law_joined
  exact fn_law (fun_mk (st := s_law) l25 c25 k25) T H_is_word H_is_stretch H_is_row H_joined H_yards H_turned H__law_pen H__law_draw H__law_pick H__law_words H__law_anything H__law_is_word H__law_is_yards H__law_is_row H__law_long_row H__law_joined H__law_bent H__law_turned
end Lw
set_option Elab.async false
set_option linter.all false
set_option maxRecDepth 10000
set_option maxHeartbeats 2000000
/-! What the mirrors come to: facts for reckoning with them. -/
namespace DL
open PySem PySem.Spec PyProof.Rows L2
def ty_int : PyData → Bool
  | .int _ => true
  | .bool _ => true
  | _ => false
theorem isT_int : ∀ x : PyData, isT "int" x = some (ty_int x)
  | .none => (by decide +kernel : kitB "NoneType" "int" = some false)
  | .bool _ => (by decide +kernel : kitB "bool" "int" = some true)
  | .int _ => (by decide +kernel : kitB "int" "int" = some true)
  | .str _ => (by decide +kernel : kitB "str" "int" = some false)
  | .list _ => (by decide +kernel : kitB "list" "int" = some false)
  | .tuple _ => (by decide +kernel : kitB "tuple" "int" = some false)
  | .dict _ => (by decide +kernel : kitB "dict" "int" = some false)
def ty_bool : PyData → Bool
  | .bool _ => true
  | _ => false
theorem isT_bool : ∀ x : PyData, isT "bool" x = some (ty_bool x)
  | .none => (by decide +kernel : kitB "NoneType" "bool" = some false)
  | .bool _ => (by decide +kernel : kitB "bool" "bool" = some true)
  | .int _ => (by decide +kernel : kitB "int" "bool" = some false)
  | .str _ => (by decide +kernel : kitB "str" "bool" = some false)
  | .list _ => (by decide +kernel : kitB "list" "bool" = some false)
  | .tuple _ => (by decide +kernel : kitB "tuple" "bool" = some false)
  | .dict _ => (by decide +kernel : kitB "dict" "bool" = some false)
def ty_str : PyData → Bool
  | .str _ => true
  | _ => false
theorem isT_str : ∀ x : PyData, isT "str" x = some (ty_str x)
  | .none => (by decide +kernel : kitB "NoneType" "str" = some false)
  | .bool _ => (by decide +kernel : kitB "bool" "str" = some false)
  | .int _ => (by decide +kernel : kitB "int" "str" = some false)
  | .str _ => (by decide +kernel : kitB "str" "str" = some true)
  | .list _ => (by decide +kernel : kitB "list" "str" = some false)
  | .tuple _ => (by decide +kernel : kitB "tuple" "str" = some false)
  | .dict _ => (by decide +kernel : kitB "dict" "str" = some false)
def ty_list : PyData → Bool
  | .list _ => true
  | _ => false
theorem isT_list : ∀ x : PyData, isT "list" x = some (ty_list x)
  | .none => (by decide +kernel : kitB "NoneType" "list" = some false)
  | .bool _ => (by decide +kernel : kitB "bool" "list" = some false)
  | .int _ => (by decide +kernel : kitB "int" "list" = some false)
  | .str _ => (by decide +kernel : kitB "str" "list" = some false)
  | .list _ => (by decide +kernel : kitB "list" "list" = some true)
  | .tuple _ => (by decide +kernel : kitB "tuple" "list" = some false)
  | .dict _ => (by decide +kernel : kitB "dict" "list" = some false)
def ty_tuple : PyData → Bool
  | .tuple _ => true
  | _ => false
theorem isT_tuple : ∀ x : PyData, isT "tuple" x = some (ty_tuple x)
  | .none => (by decide +kernel : kitB "NoneType" "tuple" = some false)
  | .bool _ => (by decide +kernel : kitB "bool" "tuple" = some false)
  | .int _ => (by decide +kernel : kitB "int" "tuple" = some false)
  | .str _ => (by decide +kernel : kitB "str" "tuple" = some false)
  | .list _ => (by decide +kernel : kitB "list" "tuple" = some false)
  | .tuple _ => (by decide +kernel : kitB "tuple" "tuple" = some true)
  | .dict _ => (by decide +kernel : kitB "dict" "tuple" = some false)
def ty_dict : PyData → Bool
  | .dict _ => true
  | _ => false
theorem isT_dict : ∀ x : PyData, isT "dict" x = some (ty_dict x)
  | .none => (by decide +kernel : kitB "NoneType" "dict" = some false)
  | .bool _ => (by decide +kernel : kitB "bool" "dict" = some false)
  | .int _ => (by decide +kernel : kitB "int" "dict" = some false)
  | .str _ => (by decide +kernel : kitB "str" "dict" = some false)
  | .list _ => (by decide +kernel : kitB "list" "dict" = some false)
  | .tuple _ => (by decide +kernel : kitB "tuple" "dict" = some false)
  | .dict _ => (by decide +kernel : kitB "dict" "dict" = some true)
/-! ### comprehensions -/
/-- items that change nothing but themselves -/
theorem lc_pure {g : MG} {c : MB} {f : ME} {e0 : Env'} {n : Nat} {A : Mem} (hA : A.length = n) (φ : EV → PyData) (p : EV → Bool) : ∀ (xs : List EV) (acc : List PyData), acc.length + xs.length ≤ 16777216 →
    (∀ x ∈ xs, ∀ acc : List PyData, ∃ e1, g x e0 (A ++ [.lst acc]) = some e1 ∧ c e1 (A ++ [.lst acc]) = some (p x, A ++ [.lst acc]) ∧ (p x = true → f e1 (A ++ [.lst acc]) = some (.d (φ x), A ++ [.lst acc]))) →
    lcL g c f n noC e0 xs (A ++ [.lst acc]) = some (A ++ [.lst (acc ++ (xs.filter p).map φ)])
  | [], acc, _, _ => by simp [lcL, noC]
  | x :: xs, acc, hl, h => by
    obtain ⟨e1, h1, h2, h3⟩ := h x List.mem_cons_self acc
    have hz : (16777216 : Nat) = sizeLine := by rw [sizeLine_eq]
    rw [List.length_cons] at hl
    have hC : noC (A ++ [MO.lst acc]) := trivial
    simp only [lcL, hC, if_true, h1, h2]
    cases hp : p x with
    | false =>
      have ih := lc_pure hA φ p xs acc (by omega) fun y hy => h y (List.mem_cons_of_mem _ hy)
      rw [List.filter_cons, hp]
      simpa using ih
    | true =>
      have ih := lc_pure hA φ p xs (acc ++ [φ x]) (by rw [List.length_append]; simp; omega) fun y hy => h y (List.mem_cons_of_mem _ hy)
      have e2 : (A ++ [MO.lst acc])[n]? = some (.lst acc) := by rw [← hA]; simp
      have e3 : (A ++ [MO.lst acc]).set n (.lst (acc ++ [φ x])) = A ++ [.lst (acc ++ [φ x])] := by rw [← hA]; simp
      have e4 : acc.length < sizeLine := by omega
      simp only [h3 hp, e2, e4, if_true, e3]
      rw [ih, List.filter_cons, hp]
      simp
theorem frz_lc {it : MIt} {g : MG} {c : MB} {f : ME} {vs : List Nat} {e : Env'} {m A : Mem} {xs : List EV} {C : Mem → Prop} {acc : List PyData} (h1 : it e m = some (xs, C, A)) (hA : A.length = m.length) {A' : Mem} (hA' : A'.length = m.length)
    (h2 : lcL g c f m.length C (wipeE e vs) xs (A ++ [.lst []]) = some (A' ++ [.lst acc])) : eFrz (eLc it g c f vs) e m = some (.d (.list acc), A') := by
  unfold eFrz eLc
  rw [h1]
  dsimp only
  rw [hA, h2]
  dsimp only
  have e1 : (A' ++ [MO.lst acc])[m.length]? = some (.lst acc) := by rw [← hA']; simp
  have e2 : (A' ++ [MO.lst acc]).take m.length = A' := by rw [← hA']; simp
  simp only [vw, e1, List.length_append, hA', List.length_singleton, and_self, if_true, e2]
/-- the same, the memory as it was -/
theorem frz_pure {it : MIt} {g : MG} {c : MB} {f : ME} {vs : List Nat} {e : Env'} {m : Mem} {xs : List EV} (φ : EV → PyData) (p : EV → Bool) (h1 : it e m = some (xs, noC, m)) (hl : xs.length ≤ 16777216)
    (h : ∀ x ∈ xs, ∀ acc : List PyData, ∃ e1, g x (wipeE e vs) (m ++ [.lst acc]) = some e1 ∧ c e1 (m ++ [.lst acc]) = some (p x, m ++ [.lst acc]) ∧ (p x = true → f e1 (m ++ [.lst acc]) = some (.d (φ x), m ++ [.lst acc]))) :
    eFrz (eLc it g c f vs) e m = some (.d (.list ((xs.filter p).map φ)), m) := by
  refine frz_lc h1 rfl rfl ?_
  have := lc_pure (A := m) (n := m.length) rfl φ p xs [] (by simpa using hl) h
  simpa using this
end DL
set_option Elab.async false
set_option linter.all false
set_option maxRecDepth 10000
set_option maxHeartbeats 4000000
namespace Lw
open PySem PySem.Spec PyProof.Rows DL L2

/-- plain things of bounded size and depth -/
def gd (n : Nat) : Nat → PyData → Prop
  | 0, x => match x with
    | .none => True
    | .bool _ => True
    | .int i => i.natAbs < 2 ^ n
    | .str s => s.length ≤ n ∧ PyData.strOk s = true
    | _ => False
  | k + 1, x => match x with
    | .none => True
    | .bool _ => True
    | .int i => i.natAbs < 2 ^ n
    | .str s => s.length ≤ n ∧ PyData.strOk s = true
    | .list xs => xs.length ≤ n ∧ ∀ y ∈ xs, gd n k y
    | .tuple xs => xs.length ≤ n ∧ ∀ y ∈ xs, gd n k y
    | .dict _ => True
theorem gd_str {n k : Nat} {s : Str} (h : gd n k (.str s)) : s.length ≤ n ∧ PyData.strOk s = true := by cases k <;> exact h
theorem gd_int {n k : Nat} {i : Int} (h : gd n k (.int i)) : i.natAbs < 2 ^ n := by cases k <;> exact h
theorem gd_list {n k : Nat} {xs : List PyData} (h : gd n k (.list xs)) : ∃ j, k = j + 1 ∧ xs.length ≤ n ∧ ∀ y ∈ xs, gd n j y := by
  cases k with
  | zero => exact False.elim h
  | succ k => exact ⟨k, rfl, h⟩
theorem gd_tuple {n k : Nat} {xs : List PyData} (h : gd n k (.tuple xs)) : ∃ j, k = j + 1 ∧ xs.length ≤ n ∧ ∀ y ∈ xs, gd n j y := by
  cases k with
  | zero => exact False.elim h
  | succ k => exact ⟨k, rfl, h⟩

def wholeB : PyData → Bool
  | .int _ => true
  | _ => false
def fromToB (x : PyData) (lo hi : Int) : Bool := match x with
  | .int i => decide (lo ≤ i) && decide (i ≤ hi)
  | _ => false
abbrev abc : Str := Str.ofString "abcdefghijklmnopqrstuvwxyz"
def wordS (s : Str) : Bool := decide (1 ≤ s.length) && decide (s.length ≤ 8) && s.cps.toList.all fun c => decide (c ∈ abc.cps.toList)
def wordB : PyData → Bool
  | .str s => wordS s
  | _ => false

theorem r_is_whole (x : PyData) (m : Mem) : m_is_whole [.d x] m = some (.d (.bool (wholeB x)), m) := by
  cases x <;> simp [m_is_whole, fnM, b_is_whole, sRet, eAnd, eIs, eNot, eVar, fnOut, vw, isT_int, isT_bool, ty_int, ty_bool, wholeB]
theorem r_is_from_to (x : PyData) (lo hi : Int) (m : Mem) : m_is_from_to [.d x, .d (.int lo), .d (.int hi)] m = some (.d (.bool (fromToB x lo hi)), m) := by
  cases x <;> simp [m_is_from_to, fnM, b_is_from_to, sRet, eAnd, eCall, aCons, aNil, eChain, eVar, fnOut, vw, r_is_whole, wholeB, fromToB, leD, cmpI]
  case int i =>
    by_cases h : lo ≤ i <;> simp [h]
theorem str_len (s : Str) : s.length = s.cps.toList.length := by simp [Str.length]
theorem asB_map {α : Type} (p : α → Bool) : ∀ xs : List α, asB (xs.map fun x => PyData.bool (p x)) = some (xs.map p)
  | [] => rfl
  | x :: xs => by simp [asB, asB_map p xs]
theorem r_is_word {x : PyData} {n k : Nat} (m : Mem) (h : gd n k x) (hn : n ≤ 1000) : m_is_word [.d x] m = some (.d (.bool (wordB x)), m) := by
  have hz := sizeLine_eq
  cases x with
  | str s =>
    have hl := (gd_str h).1
    have hs : s.length ≤ sizeLine := by omega
    have hc : eFrz (eLc (iAny (eVar 0)) (gNm 1) cYes (eBin inD (eVar 1) (eC (.str "abcdefghijklmnopqrstuvwxyz"))) [1]) [some (.d (.str s)), none] m = some (.d (.list (s.cps.toList.map fun c => .bool (decide (c ∈ abc.cps.toList)))), m) := by
      refine (frz_pure (xs := s.cps.toList.map fun c => EV.d (.str ⟨#[c]⟩)) (fun v => match v with | .d (.str z) => .bool (decide (z.cps.toList.headD 0 ∈ abc.cps.toList)) | _ => .none) (fun _ => true) (by simp [iAny, eVar]) (by rw [List.length_map, ← str_len]; omega) ?_).trans ?_
      · intro v hv acc
        rw [List.mem_map] at hv
        obtain ⟨c, hc, rfl⟩ := hv
        refine ⟨_, rfl, rfl, fun _ => ?_⟩
        simp [eBin, eVar, eC, wipeE, vw, inD, Str.ofString]
      · rw [List.filter_eq_self.mpr (fun _ _ => rfl), List.map_map]
        rfl
    simp [m_is_word, fnM, b_is_word, sSeq, sIf, sRet, bNot, bTru, eIs, eVar, vw, isT_str, ty_str, truD, sNil, eAnd, eChain, eC, eCB, c1, lenD, aCons, aNil, hs, leD, cmpI, hc, allD, asB_map, fnOut, wordB, wordS]
    by_cases h1 : 1 ≤ (s.length : Int)
    · by_cases h2 : (s.length : Int) ≤ 8
      · have h3 : 1 ≤ s.length := by omega
        have h4 : s.length ≤ 8 := by omega
        simp [h1, h2, h3, h4, hc, allD, asB_map, List.all_map, Function.comp_def]
      · have h4 : ¬ s.length ≤ 8 := by omega
        simp [h1, h2, h4]
    · have h3 : ¬ 1 ≤ s.length := by omega
      simp [h1, h3]
  | _ => simp [m_is_word, fnM, b_is_word, sSeq, sIf, sRet, bNot, bTru, eIs, eVar, vw, isT_str, ty_str, truD, fnOut, wordB, eC]
end Lw
set_option Elab.async false
set_option linter.all false
set_option maxRecDepth 10000
set_option maxHeartbeats 4000000
namespace Lw
open PySem PySem.Spec PyProof.Rows DL L2

theorem log2_lt {x n : Nat} (h : x < 2 ^ n) (h0 : 0 < n) : x.log2 < n := by
  by_cases hx : x = 0
  · subst hx; simpa using h0
  · exact (Nat.log2_lt hx).mpr h
/-- a product that is small enough -/
theorem mul_ok {i j : Int} {a b : Nat} (hi : i.natAbs < 2 ^ a) (hj : j.natAbs < 2 ^ b) (h0 : 0 < a) (h1 : 0 < b) (h : a + b ≤ 1000000) : i.natAbs.log2 + j.natAbs.log2 < 1000000 := by
  have := log2_lt hi h0
  have := log2_lt hj h1
  omega
abbrev big : Int := 1000000000000000000
theorem r_last_number {w : PyData} {f n y : Int} (m : Mem) (hn : n.natAbs < 2 ^ 2000) (hy : y.natAbs < 2 ^ 2000) : m_last_number [.d (.tuple [w, .int f, .int n, .int y])] m = some (.d (.int (f + (n - 1) * y)), m) := by
  have h1 : (n - 1).natAbs < 2 ^ 2001 := by
    have : (2 : Nat) ^ 2001 = 2 * 2 ^ 2000 := by rw [show (2001 : Nat) = 2000 + 1 from rfl, Nat.pow_succ]; omega
    omega
  have h2 := mul_ok h1 hy (by decide) (by decide) (by decide)
  simp [m_last_number, fnM, b_last_number, sSeq, sAsg, sRet, eVar, gTp, setAll, eBin, vw, subD, mulD', mulD, addD, eC, h2, fnOut]
def stretchB : PyData → Bool
  | .tuple [w, .int f, .int n, .int y] => wordB w && decide (1 ≤ n) && (decide (y = 1) || decide (y = -1)) && (decide (0 ≤ f) && decide (f ≤ big)) && (decide (0 ≤ f + (n - 1) * y) && decide (f + (n - 1) * y ≤ big))
  | _ => false
end Lw
set_option Elab.async false
set_option linter.all false
set_option maxRecDepth 10000
set_option maxHeartbeats 4000000
namespace Lw
open PySem PySem.Spec PyProof.Rows DL L2

theorem eqv_int (a b : Int) : PyData.eqv (.int a) (.int b) = (a == b) := rfl
theorem sh_int (a : Int) : SeqAt.shaped (.int a) = true := rfl
theorem neD_int (a b : Int) : neD (.int a) (.int b) = some (.bool (!(a == b))) := by simp [neD, sh_int, eqv_int]
theorem eqD_int (a b : Int) : eqD (.int a) (.int b) = some (.bool (a == b)) := by simp [eqD, sh_int, eqv_int]
theorem pow2_le {n : Nat} (h : n ≤ 2000) {x : Nat} (hx : x < 2 ^ n) : x < 2 ^ 2000 := Nat.lt_of_lt_of_le hx (Nat.pow_le_pow_right (by decide) h)
theorem notin_way (y : Int) : notinD (.int y) (.tuple [.int 1, .int (-1)]) = some (.bool (!(decide (y = 1) || decide (y = -1)))) := by
  have e1 : ((1 : Int) == y) = decide (y = 1) := by
    by_cases h : y = 1
    · subst h; rfl
    · rw [decide_eq_false h]; exact beq_eq_false_iff_ne.mpr (fun z => h z.symm)
  have e2 : ((-1 : Int) == y) = decide (y = -1) := by
    by_cases h : y = -1
    · subst h; rfl
    · rw [decide_eq_false h]; exact beq_eq_false_iff_ne.mpr (fun z => h z.symm)
  simp [notinD, inD, negD, flatD, memD, eqv_int, e1, e2]
theorem r_is_stretch {x : PyData} {n k : Nat} (m : Mem) (h : gd n k x) (hn : n ≤ 1000) : m_is_stretch [.d x] m = some (.d (.bool (stretchB x)), m) := by
  cases x with
  | tuple xs =>
    obtain ⟨j, rfl, hl, hx⟩ := gd_tuple h
    by_cases h4 : xs.length = 4
    · obtain ⟨w, f, c, y, rfl⟩ : ∃ w f c y, xs = [w, f, c, y] := by
        match xs, h4 with
        | [w, f, c, y], _ => exact ⟨w, f, c, y, rfl⟩
      have hw := hx w (by simp)
      have hf := hx f (by simp)
      have hc := hx c (by simp)
      have hy := hx y (by simp)
      have e1 := fun m => r_is_word m hw hn
      cases ew : wordB w with
      | false =>
        have : stretchB (.tuple [w, f, c, y]) = false := by
          unfold stretchB
          split
          · rename_i e; cases e; simp [ew]
          · rfl
        simp [m_is_stretch, b_is_stretch, sizeLine_eq, fnM, fnOut, sSeq, sIf, sSet, sRet, sRetN, sNil, sEx, sAsg, sPar, sAug, eVar, eC, eBin, eBinF, eCB, c1, c2, c1F, aCons, aNil, eAnd, eOr, eNot, bNot, bTru, bAnd, bOr, bOf, eIf, eCall, eChain, eIs, eIs2, eNeg, eIsN, isnE, eLst, eTup, asD, eTupT, eIxT, eLstL, eApp, eGet, sPut, sSetIx, eSl, eSlF, oNo, oYes, eRev, gNm, gTp, setAll, vw, vwF, vwFs, truD, addD, subD, mulD', mulD, powD, ixD, lenD, cmpI, ltD, leD, gtD, geD, isT_int, isT_bool, isT_str, isT_list, isT_tuple, ty_int, ty_bool, ty_str, ty_list, ty_tuple, isT2, neD_int, e1, ew, this]
      | true =>
      cases c with
      | int c =>
        cases y with
        | int y =>
          have hm := notin_way y
          have e3 := fun m => r_last_number (w := w) (f := 0) m (n := c) (y := y) (pow2_le (by omega) (gd_int hc)) (pow2_le (by omega) (gd_int hy))
          cases f with
          | int f =>
            have e3 := fun m => r_last_number (w := w) (f := f) m (n := c) (y := y) (pow2_le (by omega) (gd_int hc)) (pow2_le (by omega) (gd_int hy))
            by_cases h1 : c < 1
            · have h1' : ¬ 1 ≤ c := by omega
              simp [m_is_stretch, b_is_stretch, sizeLine_eq, fnM, fnOut, sSeq, sIf, sSet, sRet, sRetN, sNil, sEx, sAsg, sPar, sAug, eVar, eC, eBin, eBinF, eCB, c1, c2, c1F, aCons, aNil, eAnd, eOr, eNot, bNot, bTru, bAnd, bOr, bOf, eIf, eCall, eChain, eIs, eIs2, eNeg, eIsN, isnE, eLst, eTup, asD, eTupT, eIxT, eLstL, eApp, eGet, sPut, sSetIx, eSl, eSlF, oNo, oYes, eRev, gNm, gTp, setAll, vw, vwF, vwFs, truD, addD, subD, mulD', mulD, powD, ixD, lenD, cmpI, ltD, leD, gtD, geD, isT_int, isT_bool, isT_str, isT_list, isT_tuple, ty_int, ty_bool, ty_str, ty_list, ty_tuple, isT2, neD_int, e1, ew, r_is_whole, wholeB, h1, stretchB, h1']
            · have h1' : 1 ≤ c := by omega
              cases hyy : (decide (y = 1) || decide (y = -1)) with
              | false => simp [m_is_stretch, b_is_stretch, sizeLine_eq, fnM, fnOut, sSeq, sIf, sSet, sRet, sRetN, sNil, sEx, sAsg, sPar, sAug, eVar, eC, eBin, eBinF, eCB, c1, c2, c1F, aCons, aNil, eAnd, eOr, eNot, bNot, bTru, bAnd, bOr, bOf, eIf, eCall, eChain, eIs, eIs2, eNeg, eIsN, isnE, eLst, eTup, asD, eTupT, eIxT, eLstL, eApp, eGet, sPut, sSetIx, eSl, eSlF, oNo, oYes, eRev, gNm, gTp, setAll, vw, vwF, vwFs, truD, addD, subD, mulD', mulD, powD, ixD, lenD, cmpI, ltD, leD, gtD, geD, isT_int, isT_bool, isT_str, isT_list, isT_tuple, ty_int, ty_bool, ty_str, ty_list, ty_tuple, isT2, neD_int, e1, ew, r_is_whole, wholeB, h1, stretchB, hyy, hm]
              | true =>
                cases hff : fromToB (.int f) 0 big with
                | false =>
                  have : (decide (0 ≤ f) && decide (f ≤ big)) = false := hff
                  simp [m_is_stretch, b_is_stretch, sizeLine_eq, fnM, fnOut, sSeq, sIf, sSet, sRet, sRetN, sNil, sEx, sAsg, sPar, sAug, eVar, eC, eBin, eBinF, eCB, c1, c2, c1F, aCons, aNil, eAnd, eOr, eNot, bNot, bTru, bAnd, bOr, bOf, eIf, eCall, eChain, eIs, eIs2, eNeg, eIsN, isnE, eLst, eTup, asD, eTupT, eIxT, eLstL, eApp, eGet, sPut, sSetIx, eSl, eSlF, oNo, oYes, eRev, gNm, gTp, setAll, vw, vwF, vwFs, truD, addD, subD, mulD', mulD, powD, ixD, lenD, cmpI, ltD, leD, gtD, geD, isT_int, isT_bool, isT_str, isT_list, isT_tuple, ty_int, ty_bool, ty_str, ty_list, ty_tuple, isT2, neD_int, e1, ew, r_is_whole, wholeB, h1, stretchB, hyy, hm, r_is_from_to, hff, this]
                | true =>
                  have : (decide (0 ≤ f) && decide (f ≤ big)) = true := hff
                  simp [m_is_stretch, b_is_stretch, sizeLine_eq, fnM, fnOut, sSeq, sIf, sSet, sRet, sRetN, sNil, sEx, sAsg, sPar, sAug, eVar, eC, eBin, eBinF, eCB, c1, c2, c1F, aCons, aNil, eAnd, eOr, eNot, bNot, bTru, bAnd, bOr, bOf, eIf, eCall, eChain, eIs, eIs2, eNeg, eIsN, isnE, eLst, eTup, asD, eTupT, eIxT, eLstL, eApp, eGet, sPut, sSetIx, eSl, eSlF, oNo, oYes, eRev, gNm, gTp, setAll, vw, vwF, vwFs, truD, addD, subD, mulD', mulD, powD, ixD, lenD, cmpI, ltD, leD, gtD, geD, isT_int, isT_bool, isT_str, isT_list, isT_tuple, ty_int, ty_bool, ty_str, ty_list, ty_tuple, isT2, neD_int, e1, ew, r_is_whole, wholeB, h1, h1', stretchB, hyy, hm, r_is_from_to, hff, this, e3]
                  simp [fromToB]
          | _ =>
            have hff : ∀ z, stretchB z = stretchB z := fun _ => rfl
            by_cases h1 : c < 1
            · simp [m_is_stretch, b_is_stretch, sizeLine_eq, fnM, fnOut, sSeq, sIf, sSet, sRet, sRetN, sNil, sEx, sAsg, sPar, sAug, eVar, eC, eBin, eBinF, eCB, c1, c2, c1F, aCons, aNil, eAnd, eOr, eNot, bNot, bTru, bAnd, bOr, bOf, eIf, eCall, eChain, eIs, eIs2, eNeg, eIsN, isnE, eLst, eTup, asD, eTupT, eIxT, eLstL, eApp, eGet, sPut, sSetIx, eSl, eSlF, oNo, oYes, eRev, gNm, gTp, setAll, vw, vwF, vwFs, truD, addD, subD, mulD', mulD, powD, ixD, lenD, cmpI, ltD, leD, gtD, geD, isT_int, isT_bool, isT_str, isT_list, isT_tuple, ty_int, ty_bool, ty_str, ty_list, ty_tuple, isT2, neD_int, e1, ew, r_is_whole, wholeB, h1, stretchB]
            · cases hyy : (decide (y = 1) || decide (y = -1)) with
              | false => simp [m_is_stretch, b_is_stretch, sizeLine_eq, fnM, fnOut, sSeq, sIf, sSet, sRet, sRetN, sNil, sEx, sAsg, sPar, sAug, eVar, eC, eBin, eBinF, eCB, c1, c2, c1F, aCons, aNil, eAnd, eOr, eNot, bNot, bTru, bAnd, bOr, bOf, eIf, eCall, eChain, eIs, eIs2, eNeg, eIsN, isnE, eLst, eTup, asD, eTupT, eIxT, eLstL, eApp, eGet, sPut, sSetIx, eSl, eSlF, oNo, oYes, eRev, gNm, gTp, setAll, vw, vwF, vwFs, truD, addD, subD, mulD', mulD, powD, ixD, lenD, cmpI, ltD, leD, gtD, geD, isT_int, isT_bool, isT_str, isT_list, isT_tuple, ty_int, ty_bool, ty_str, ty_list, ty_tuple, isT2, neD_int, e1, ew, r_is_whole, wholeB, h1, stretchB, hyy, hm]
              | true => simp [m_is_stretch, b_is_stretch, sizeLine_eq, fnM, fnOut, sSeq, sIf, sSet, sRet, sRetN, sNil, sEx, sAsg, sPar, sAug, eVar, eC, eBin, eBinF, eCB, c1, c2, c1F, aCons, aNil, eAnd, eOr, eNot, bNot, bTru, bAnd, bOr, bOf, eIf, eCall, eChain, eIs, eIs2, eNeg, eIsN, isnE, eLst, eTup, asD, eTupT, eIxT, eLstL, eApp, eGet, sPut, sSetIx, eSl, eSlF, oNo, oYes, eRev, gNm, gTp, setAll, vw, vwF, vwFs, truD, addD, subD, mulD', mulD, powD, ixD, lenD, cmpI, ltD, leD, gtD, geD, isT_int, isT_bool, isT_str, isT_list, isT_tuple, ty_int, ty_bool, ty_str, ty_list, ty_tuple, isT2, neD_int, e1, ew, r_is_whole, wholeB, h1, stretchB, hyy, hm, r_is_from_to, fromToB]
        | _ => simp [m_is_stretch, b_is_stretch, sizeLine_eq, fnM, fnOut, sSeq, sIf, sSet, sRet, sRetN, sNil, sEx, sAsg, sPar, sAug, eVar, eC, eBin, eBinF, eCB, c1, c2, c1F, aCons, aNil, eAnd, eOr, eNot, bNot, bTru, bAnd, bOr, bOf, eIf, eCall, eChain, eIs, eIs2, eNeg, eIsN, isnE, eLst, eTup, asD, eTupT, eIxT, eLstL, eApp, eGet, sPut, sSetIx, eSl, eSlF, oNo, oYes, eRev, gNm, gTp, setAll, vw, vwF, vwFs, truD, addD, subD, mulD', mulD, powD, ixD, lenD, cmpI, ltD, leD, gtD, geD, isT_int, isT_bool, isT_str, isT_list, isT_tuple, ty_int, ty_bool, ty_str, ty_list, ty_tuple, isT2, neD_int, e1, ew, r_is_whole, wholeB, stretchB]
      | _ => simp [m_is_stretch, b_is_stretch, sizeLine_eq, fnM, fnOut, sSeq, sIf, sSet, sRet, sRetN, sNil, sEx, sAsg, sPar, sAug, eVar, eC, eBin, eBinF, eCB, c1, c2, c1F, aCons, aNil, eAnd, eOr, eNot, bNot, bTru, bAnd, bOr, bOf, eIf, eCall, eChain, eIs, eIs2, eNeg, eIsN, isnE, eLst, eTup, asD, eTupT, eIxT, eLstL, eApp, eGet, sPut, sSetIx, eSl, eSlF, oNo, oYes, eRev, gNm, gTp, setAll, vw, vwF, vwFs, truD, addD, subD, mulD', mulD, powD, ixD, lenD, cmpI, ltD, leD, gtD, geD, isT_int, isT_bool, isT_str, isT_list, isT_tuple, ty_int, ty_bool, ty_str, ty_list, ty_tuple, isT2, neD_int, e1, ew, r_is_whole, wholeB, stretchB]
    · have h5 : ((xs.length : Int) == 4) = false := by simp; omega
      have : stretchB (.tuple xs) = false := by
        unfold stretchB
        split
        · rename_i e; cases e; simp at h4
        · rfl
      simp [m_is_stretch, b_is_stretch, sizeLine_eq, fnM, fnOut, sSeq, sIf, sSet, sRet, sRetN, sNil, sEx, sAsg, sPar, sAug, eVar, eC, eBin, eBinF, eCB, c1, c2, c1F, aCons, aNil, eAnd, eOr, eNot, bNot, bTru, bAnd, bOr, bOf, eIf, eCall, eChain, eIs, eIs2, eNeg, eIsN, isnE, eLst, eTup, asD, eTupT, eIxT, eLstL, eApp, eGet, sPut, sSetIx, eSl, eSlF, oNo, oYes, eRev, gNm, gTp, setAll, vw, vwF, vwFs, truD, addD, subD, mulD', mulD, powD, ixD, lenD, cmpI, ltD, leD, gtD, geD, isT_int, isT_bool, isT_str, isT_list, isT_tuple, ty_int, ty_bool, ty_str, ty_list, ty_tuple, isT2, neD_int, h5, this]
  | _ => simp [m_is_stretch, b_is_stretch, sizeLine_eq, fnM, fnOut, sSeq, sIf, sSet, sRet, sRetN, sNil, sEx, sAsg, sPar, sAug, eVar, eC, eBin, eBinF, eCB, c1, c2, c1F, aCons, aNil, eAnd, eOr, eNot, bNot, bTru, bAnd, bOr, bOf, eIf, eCall, eChain, eIs, eIs2, eNeg, eIsN, isnE, eLst, eTup, asD, eTupT, eIxT, eLstL, eApp, eGet, sPut, sSetIx, eSl, eSlF, oNo, oYes, eRev, gNm, gTp, setAll, vw, vwF, vwFs, truD, addD, subD, mulD', mulD, powD, ixD, lenD, cmpI, ltD, leD, gtD, geD, isT_int, isT_bool, isT_str, isT_list, isT_tuple, ty_int, ty_bool, ty_str, ty_list, ty_tuple, isT2, stretchB]
end Lw
set_option Elab.async false
set_option linter.all false
set_option maxRecDepth 10000
set_option maxHeartbeats 4000000
namespace Lw
open PySem PySem.Spec PyProof.Rows DL L2

/-- a stretch: word, first, many, way -/
structure Sx where
  w : Str
  f : Int
  m : Int
  y : Int
def sx (s : Sx) : PyData := .tuple [.str s.w, .int s.f, .int s.m, .int s.y]
def goesB (s t : Sx) : Bool := (t.w == s.w) && ((t.f == s.f + s.m * s.y) && (t.y == s.y))
def addS (s t : Sx) : Sx := ⟨s.w, s.f, s.m + t.m, s.y⟩
def stepJ (acc : List Sx) (t : Sx) : List Sx := match acc.getLast? with
  | some s => if goesB s t then acc.dropLast ++ [addS s t] else acc ++ [t]
  | none => [t]
def joinS (ss : List Sx) : List Sx := ss.foldl stepJ []
def aboutS (s : Sx) : Sx := ⟨s.w, s.f + (s.m - 1) * s.y, s.m, -s.y⟩
/-- numbers of a bounded size, words of true signs -/
structure okS (B : Nat) (s : Sx) : Prop where
  w : PyData.strOk s.w = true
  m : s.m.natAbs ≤ B
  y : s.y.natAbs ≤ 1
theorem okS.mono {B C : Nat} {s : Sx} (h : okS B s) (l : B ≤ C) : okS C s := ⟨h.w, by have := h.m; omega, h.y⟩
theorem sh_str {z : Str} (h : PyData.strOk z = true) : SeqAt.shaped (.str z) = true := by
  unfold SeqAt.shaped PyData.canLay0 PyData.depth
  simp [h]
theorem sh3 {a : Str} {b c : Int} (h : PyData.strOk a = true) : SeqAt.shaped (.tuple [.str a, .int b, .int c]) = true := by
  simp [SeqAt.shaped, PyData.canLay0, PyData.canLayAll0, PyData.depth, PyData.depthAll, h]
theorem sh4 {s : Sx} (h : PyData.strOk s.w = true) : SeqAt.shaped (sx s) = true := by
  simp [sx, SeqAt.shaped, PyData.canLay0, PyData.canLayAll0, PyData.depth, PyData.depthAll, h]
theorem pow_62 : (2 : Nat) ^ 70 ≤ 2 ^ 2000 := Nat.pow_le_pow_right (by decide) (by decide)
theorem small {B : Nat} {i : Int} (h : i.natAbs ≤ B) (hB : B < 2 ^ 70) : i.natAbs < 2 ^ 2000 := Nat.lt_of_lt_of_le (Nat.lt_of_le_of_lt h hB) pow_62
theorem last_eq (s : Sx) : s.f + (s.m - 1) * s.y + s.y = s.f + s.m * s.y := by
  rw [Int.sub_mul]; omega
theorem r_goes_on {s t : Sx} {B : Nat} (m : Mem) (hs : okS B s) (ht : okS B t) (hB : B < 2 ^ 70) : m__goes_on [.d (sx s), .d (sx t)] m = some (.d (.bool (goesB s t)), m) := by
  have e3 := fun m => r_last_number (w := .str s.w) (f := s.f) m (n := s.m) (y := s.y) (small hs.m hB) (small (Nat.le_trans hs.y (by decide)) (by decide : 1 < 2 ^ 70))
  have e4 : eqD (.tuple [.str t.w, .int t.f, .int t.y]) (.tuple [.str s.w, .int (s.f + (s.m - 1) * s.y + s.y), .int s.y]) = some (.bool (goesB s t)) := by
    simp [eqD, sh3 hs.w, sh3 ht.w, PyData.eqv, PyData.eqvAll, goesB, last_eq]
  have a0 : L2.atI [PyData.str s.w, .int s.f, .int s.m, .int s.y] 0 = some (.str s.w) := rfl
  have a3 : L2.atI [PyData.str s.w, .int s.f, .int s.m, .int s.y] 3 = some (.int s.y) := rfl
  have b0 : L2.atI [PyData.str t.w, .int t.f, .int t.m, .int t.y] 0 = some (.str t.w) := rfl
  have b1 : L2.atI [PyData.str t.w, .int t.f, .int t.m, .int t.y] 1 = some (.int t.f) := rfl
  have b3 : L2.atI [PyData.str t.w, .int t.f, .int t.m, .int t.y] 3 = some (.int t.y) := rfl
  simp [m__goes_on, b__goes_on, sizeLine_eq, fnM, fnOut, sSeq, sIf, sSet, sRet, sRetN, sNil, sEx, sAsg, sPar, sAug, eVar, eC, eBin, eBinF, eCB, c1, c2, c1F, aCons, aNil, eAnd, eOr, eNot, bNot, bTru, bAnd, bOr, bOf, eIf, eCall, eChain, eIs, eIs2, eNeg, eIsN, isnE, eLst, eTup, asD, eTupT, eIxT, eLstL, eApp, eGet, sPut, sSetIx, eSl, eSlF, oNo, oYes, eRev, gNm, gTp, setAll, vw, vwF, vwFs, truD, addD, subD, mulD', mulD, powD, ixD, lenD, cmpI, ltD, leD, gtD, geD, isT_int, isT_bool, isT_str, isT_list, isT_tuple, ty_int, ty_bool, ty_str, ty_list, ty_tuple, isT2, sx, a0, a3, b0, b1, b3, e3, e4]
end Lw
set_option Elab.async false
set_option linter.all false
set_option maxRecDepth 10000
set_option maxHeartbeats 4000000
namespace Lw
open PySem PySem.Spec PyProof.Rows DL L2

theorem for_ind {g : MG} {b : MS} {C : Mem → Prop} (I : List EV → Env' → Mem → Prop) (step : ∀ x xs e m, I (x :: xs) e m → C m ∧ ∃ e1, g x e m = some e1 ∧ ∃ e2 m2, b e1 m = some (.nx e2, m2) ∧ I xs e2 m2) (fin : ∀ e m, I [] e m → C m) :
    ∀ xs e m, I xs e m → ∃ e' m', forL g b C xs e m = some (.nx e', m') ∧ I [] e' m'
  | [], e, m, h => ⟨e, m, by simp [forL, fin e m h], h⟩
  | x :: xs, e, m, h => by
    obtain ⟨hC, e1, h1, e2, m2, h2, h3⟩ := step x xs e m h
    obtain ⟨e', m', h4, h5⟩ := for_ind I step fin xs e2 m2 h3
    exact ⟨e', m', by simp [forL, hC, h1, h2, h4], h5⟩
theorem ixN_last (n : Nat) : ixN (n + 1) (-1) = some n := by
  unfold ixN
  rw [if_neg (by omega), if_pos (by omega)]
  congr 1
  omega
theorem atI_last {α : Type} (l : List α) (a : α) : L2.atI (l ++ [a]) (-1) = some a := by
  unfold L2.atI
  rw [List.length_append, List.length_singleton, ixN_last]
  simp
theorem set_last {α : Type} (l : List α) (a b : α) : (l ++ [a]).set l.length b = l ++ [b] := by simp
/-- where a row stands -/
def Src (x : EV) (m : Mem) (ds : List PyData) : Prop := x = .d (.list ds) ∨ x = .d (.tuple ds) ∨ ∃ j, x = .l j ∧ m[j]? = some (.lst ds)
def srcC (x : EV) (ds : List PyData) : Mem → Prop := match x with
  | .l j => isC j ds
  | _ => noC
theorem src_any {x : EV} {m : Mem} {ds : List PyData} (h : Src x m ds) {e : Env'} {i : Nat} (he : e[i]? = some (some x)) (A : Mem) : iAny (eVar i) e (m ++ A) = some (ds.map EV.d, srcC x ds, m ++ A) := by
  rcases h with rfl | rfl | ⟨j, rfl, hj⟩
  · simp [iAny, eVar, he, srcC]
  · simp [iAny, eVar, he, srcC]
  · have : (m ++ A)[j]? = some (.lst ds) := by rw [List.getElem?_append_left (List.getElem?_eq_some_iff.mp hj).1]; exact hj
    simp [iAny, eVar, he, this, srcC]
theorem src_rev {x : EV} {m : Mem} {ds : List PyData} (h : Src x m ds) {e : Env'} {i : Nat} (he : e[i]? = some (some x)) (A : Mem) : iRv (eVar i) e (m ++ A) = some (ds.reverse.map EV.d, srcC x ds, m ++ A) := by
  rcases h with rfl | rfl | ⟨j, rfl, hj⟩
  · simp [iRv, eVar, he, srcC]
  · simp [iRv, eVar, he, srcC]
  · have : (m ++ A)[j]? = some (.lst ds) := by rw [List.getElem?_append_left (List.getElem?_eq_some_iff.mp hj).1]; exact hj
    simp [iRv, eVar, he, this, srcC]
theorem src_C {x : EV} {m : Mem} {ds : List PyData} (h : Src x m ds) (A : Mem) : srcC x ds (m ++ A) := by
  rcases h with rfl | rfl | ⟨j, rfl, hj⟩
  · trivial
  · trivial
  · show (m ++ A)[j]? = some (.lst ds)
    rw [List.getElem?_append_left (List.getElem?_eq_some_iff.mp hj).1]; exact hj

/-! ### joined -/
structure okA (B k : Nat) (acc : List Sx) : Prop where
  len : acc.length ≤ k
  ok : ∀ s ∈ acc, okS (B * k) s
theorem okA.nil {B : Nat} : okA B 0 [] := ⟨Nat.le_refl _, fun s h => by simp at h⟩
theorem okA.step {B k : Nat} {acc : List Sx} {t : Sx} (h : okA B k acc) (ht : okS B t) : okA B (k + 1) (stepJ acc t) := by
  have hb : B * k ≤ B * (k + 1) := Nat.mul_le_mul_left _ (by omega)
  have hb2 : B ≤ B * (k + 1) := by rw [Nat.mul_succ]; omega
  rcases List.eq_nil_or_concat acc with rfl | ⟨l, s, rfl⟩
  · exact ⟨by simp [stepJ], fun s hs => by simp [stepJ] at hs; subst hs; exact ht.mono hb2⟩
  · rw [List.concat_eq_append] at h ⊢
    have hl := h.len
    simp at hl
    have hs := h.ok s (by simp)
    unfold stepJ
    simp only [List.getLast?_append, List.getLast?_singleton, Option.some_or, List.dropLast_concat]
    split
    · refine ⟨by simp; omega, fun z hz => ?_⟩
      rcases List.mem_append.mp hz with hz | hz
      · exact (h.ok z (by simp [hz])).mono hb
      · simp at hz
        subst hz
        exact ⟨hs.w, by show (s.m + t.m).natAbs ≤ _; have := hs.m; have := ht.m; rw [Nat.mul_succ]; omega, hs.y⟩
    · refine ⟨by simp; omega, fun z hz => ?_⟩
      rcases List.mem_append.mp hz with hz | hz
      · exact (h.ok z hz).mono hb
      · simp at hz
        subst hz
        exact ht.mono hb2
noncomputable abbrev bodyJ : MS := sIf (bAnd (bTru (eVar 1)) (bTru (eCall m__goes_on (aCons (eBin ixD (eVar 1) (eNeg (eC (.int 1)))) (aCons (eVar 2) aNil))))) (sSeq (sAsg (eBin ixD (eVar 1) (eNeg (eC (.int 1)))) (gTp [3, 4, 5, 6]))
    (sSetIx (eTup (aCons (eVar 3) (aCons (eVar 4) (aCons (eBin addD (eVar 5) (eBin ixD (eVar 2) (eC (.int 2)))) (aCons (eVar 6) aNil))))) (eVar 1) (eNeg (eC (.int 1))))) (sEx (eApp (eVar 1) (eVar 2)))
theorem app_get {α : Type} (m : List α) (o : α) : (m ++ [o])[m.length]? = some o := by simp
theorem app_set {α : Type} (m : List α) (o p : α) : (m ++ [o]).set m.length p = m ++ [p] := by simp
theorem stepJ_last (l : List Sx) (s t : Sx) : stepJ (l ++ [s]) t = if goesB s t then l ++ [addS s t] else (l ++ [s]) ++ [t] := by
  unfold stepJ
  simp
theorem b_joinedStep {x : EV} {m : Mem} {acc : List Sx} {t : Sx} {a3 a4 a5 a6 : Option EV} {B : Nat} (ha : ∀ s ∈ acc, okS B s) (ht : okS B t) (hl : acc.length ≤ 1000) (hB : B < 2 ^ 70) :
    ∃ b3 b4 b5 b6, bodyJ [some x, some (.l m.length), some (.d (sx t)), a3, a4, a5, a6] (m ++ [.lst (acc.map sx)]) = some (.nx [some x, some (.l m.length), some (.d (sx t)), b3, b4, b5, b6], m ++ [.lst ((stepJ acc t).map sx)]) := by
  have g1 := fun o : MO => app_get m o
  have g2 := fun o p : MO => app_set m o p
  rcases List.eq_nil_or_concat acc with rfl | ⟨l, s, rfl⟩
  · refine ⟨a3, a4, a5, a6, ?_⟩
    simp [bodyJ, sizeLine_eq, fnM, fnOut, sSeq, sIf, sSet, sRet, sRetN, sNil, sEx, sAsg, sPar, sAug, eVar, eC, eBin, eBinF, eCB, c1, c2, c1F, aCons, aNil, eAnd, eOr, eNot, bNot, bTru, bAnd, bOr, bOf, eIf, eCall, eChain, eIs, eIs2, eNeg, eIsN, isnE, eLst, eTup, asD, eTupT, eIxT, eLstL, eApp, eGet, sPut, sSetIx, eSl, eSlF, oNo, oYes, eRev, gNm, gTp, setAll, vw, vwF, vwFs, truD, addD, subD, mulD', mulD, powD, ixD, lenD, cmpI, ltD, leD, gtD, geD, isT_int, isT_bool, isT_str, isT_list, isT_tuple, ty_int, ty_bool, ty_str, ty_list, ty_tuple, isT2, g1, g2, stepJ]
  · rw [List.concat_eq_append] at ha hl ⊢
    have hs := ha s (by simp)
    have e1 := fun m => r_goes_on (s := s) (t := t) m hs ht hB
    have e2 : L2.atI (l.map sx ++ [sx s]) (-1) = some (sx s) := atI_last _ _
    have e3 : ixN (l.length + 1) (-1) = some l.length := ixN_last _
    have e4 : (l.map sx ++ [sx s]).set l.length (sx (addS s t)) = l.map sx ++ [sx (addS s t)] := by
      have := set_last (l.map sx) (sx s) (sx (addS s t))
      simpa using this
    have e5 : l.length + 1 < 16777216 := by simp at hl; omega
    have e6 : L2.atI [PyData.str t.w, .int t.f, .int t.m, .int t.y] 2 = some (.int t.m) := rfl
    have e10 : (l.map sx ++ [sx s]).isEmpty = false := by simp
    rw [stepJ_last]
    cases hg : goesB s t with
    | true =>
      refine ⟨some (.d (.str s.w)), some (.d (.int s.f)), some (.d (.int s.m)), some (.d (.int s.y)), ?_⟩
      have e7 : sx s = .tuple [.str s.w, .int s.f, .int s.m, .int s.y] := rfl
      have e8 : sx (addS s t) = .tuple [.str s.w, .int s.f, .int (s.m + t.m), .int s.y] := rfl
      have e9 : sx t = .tuple [.str t.w, .int t.f, .int t.m, .int t.y] := rfl
      simp [bodyJ, sizeLine_eq, fnM, fnOut, sSeq, sIf, sSet, sRet, sRetN, sNil, sEx, sAsg, sPar, sAug, eVar, eC, eBin, eBinF, eCB, c1, c2, c1F, aCons, aNil, eAnd, eOr, eNot, bNot, bTru, bAnd, bOr, bOf, eIf, eCall, eChain, eIs, eIs2, eNeg, eIsN, isnE, eLst, eTup, asD, eTupT, eIxT, eLstL, eApp, eGet, sPut, sSetIx, eSl, eSlF, oNo, oYes, eRev, gNm, gTp, setAll, vw, vwF, vwFs, truD, addD, subD, mulD', mulD, powD, ixD, lenD, cmpI, ltD, leD, gtD, geD, isT_int, isT_bool, isT_str, isT_list, isT_tuple, ty_int, ty_bool, ty_str, ty_list, ty_tuple, isT2, g1, g2, e1, e2, hg, e3, e10]
      simp [e7, e9, sizeLine_eq, fnM, fnOut, sSeq, sIf, sSet, sRet, sRetN, sNil, sEx, sAsg, sPar, sAug, eVar, eC, eBin, eBinF, eCB, c1, c2, c1F, aCons, aNil, eAnd, eOr, eNot, bNot, bTru, bAnd, bOr, bOf, eIf, eCall, eChain, eIs, eIs2, eNeg, eIsN, isnE, eLst, eTup, asD, eTupT, eIxT, eLstL, eApp, eGet, sPut, sSetIx, eSl, eSlF, oNo, oYes, eRev, gNm, gTp, setAll, vw, vwF, vwFs, truD, addD, subD, mulD', mulD, powD, ixD, lenD, cmpI, ltD, leD, gtD, geD, isT_int, isT_bool, isT_str, isT_list, isT_tuple, ty_int, ty_bool, ty_str, ty_list, ty_tuple, isT2, e6]
      rw [← e7, ← e8, e3]
      dsimp only
      rw [e4]
    | false =>
      refine ⟨a3, a4, a5, a6, ?_⟩
      simp [bodyJ, sizeLine_eq, fnM, fnOut, sSeq, sIf, sSet, sRet, sRetN, sNil, sEx, sAsg, sPar, sAug, eVar, eC, eBin, eBinF, eCB, c1, c2, c1F, aCons, aNil, eAnd, eOr, eNot, bNot, bTru, bAnd, bOr, bOf, eIf, eCall, eChain, eIs, eIs2, eNeg, eIsN, isnE, eLst, eTup, asD, eTupT, eIxT, eLstL, eApp, eGet, sPut, sSetIx, eSl, eSlF, oNo, oYes, eRev, gNm, gTp, setAll, vw, vwF, vwFs, truD, addD, subD, mulD', mulD, powD, ixD, lenD, cmpI, ltD, leD, gtD, geD, isT_int, isT_bool, isT_str, isT_list, isT_tuple, ty_int, ty_bool, ty_str, ty_list, ty_tuple, isT2, g1, g2, e1, e2, hg, e5, e10]
theorem r_joined {x : EV} {m : Mem} {ss : List Sx} {B : Nat} (hx : Src x m (ss.map sx)) (ok : ∀ s ∈ ss, okS B s) (hl : ss.length ≤ 1000) (hB : B * 1001 < 2 ^ 70) : m_joined [x] m = some (.l m.length, m ++ [.lst ((joinS ss).map sx)]) := by
  have hE : ∀ (k : Nat), k ≤ 1001 → B * k < 2 ^ 70 := fun k hk => Nat.lt_of_le_of_lt (Nat.mul_le_mul_left B hk) hB
  have loop : ∃ e' m', forL (gNm 2) bodyJ (srcC x (ss.map sx)) ((ss.map sx).map EV.d) [some x, some (.l m.length), none, none, none, none, none] (m ++ [.lst []]) = some (.nx e', m') ∧
      e'[1]? = some (some (.l m.length)) ∧ m' = m ++ [.lst ((joinS ss).map sx)] := by
    have step : ∀ v xs e mem, (∃ (done rest : List Sx) (a2 a3 a4 a5 a6 : Option EV), done ++ rest = ss ∧ v :: xs = (rest.map sx).map EV.d ∧ e = [some x, some (.l m.length), a2, a3, a4, a5, a6] ∧ mem = m ++ [MO.lst ((done.foldl stepJ []).map sx)] ∧ okA B done.length (done.foldl stepJ [])) →
        srcC x (ss.map sx) mem ∧ ∃ e1, gNm 2 v e mem = some e1 ∧ ∃ e2 m2, bodyJ e1 mem = some (.nx e2, m2) ∧ (∃ (done rest : List Sx) (a2 a3 a4 a5 a6 : Option EV), done ++ rest = ss ∧ xs = (rest.map sx).map EV.d ∧ e2 = [some x, some (.l m.length), a2, a3, a4, a5, a6] ∧ m2 = m ++ [MO.lst ((done.foldl stepJ []).map sx)] ∧ okA B done.length (done.foldl stepJ [])) := by
      rintro v xs e mem ⟨done, rest, a2, a3, a4, a5, a6, q1, q2, q3, q4, q7⟩
      cases rest with
      | nil => simp at q2
      | cons t rest =>
        simp only [List.map_cons, List.cons.injEq] at q2
        obtain ⟨rfl, rfl⟩ := q2
        subst q3 q4
        have hk : done.length + 1 ≤ 1000 := by
          have := congrArg List.length q1
          simp at this
          omega
        have ht : okS B t := ok t (by rw [← q1]; simp)
        have ht2 : okS (B * (done.length + 1)) t := ht.mono (by rw [Nat.mul_succ]; omega)
        have ha2 : ∀ s ∈ done.foldl stepJ [], okS (B * (done.length + 1)) s := fun s hs => (q7.ok s hs).mono (by rw [Nat.mul_succ]; omega)
        obtain ⟨b3, b4, b5, b6, hb⟩ := b_joinedStep (x := x) (m := m) (a3 := a3) (a4 := a4) (a5 := a5) (a6 := a6) ha2 ht2 (Nat.le_trans q7.len (by omega)) (hE _ (by omega))
        have e1 : (done ++ [t]).foldl stepJ [] = stepJ (done.foldl stepJ []) t := by rw [List.foldl_append]; rfl
        refine ⟨src_C hx _, [some x, some (.l m.length), some (.d (sx t)), a3, a4, a5, a6], rfl, _, _, hb, done ++ [t], rest, _, b3, b4, b5, b6, by simpa using q1, rfl, rfl, by rw [e1], ?_⟩
        rw [e1, List.length_append]
        exact q7.step ht
    have fin : ∀ e mem, (∃ (done rest : List Sx) (a2 a3 a4 a5 a6 : Option EV), done ++ rest = ss ∧ [] = (rest.map sx).map EV.d ∧ e = [some x, some (.l m.length), a2, a3, a4, a5, a6] ∧ mem = m ++ [MO.lst ((done.foldl stepJ []).map sx)] ∧ okA B done.length (done.foldl stepJ [])) → srcC x (ss.map sx) mem := by
      rintro e mem ⟨done, rest, a2, a3, a4, a5, a6, q1, q2, q3, q4, q7⟩
      subst q4
      exact src_C hx _
    obtain ⟨e', m', h1, done, rest, a2, a3, a4, a5, a6, q1, q2, q3, q4, q7⟩ := for_ind (fun xs e mem => ∃ (done rest : List Sx) (a2 a3 a4 a5 a6 : Option EV), done ++ rest = ss ∧ xs = (rest.map sx).map EV.d ∧ e = [some x, some (.l m.length), a2, a3, a4, a5, a6] ∧ mem = m ++ [MO.lst ((done.foldl stepJ []).map sx)] ∧ okA B done.length (done.foldl stepJ [])) step fin _ _ _
      ⟨[], ss, none, none, none, none, none, rfl, rfl, rfl, rfl, .nil⟩
    have hr : rest = [] := by
      cases rest with
      | nil => rfl
      | cons z zs => simp at q2
    subst hr q3
    rw [List.append_nil] at q1
    subst q1
    exact ⟨_, m', h1, rfl, q4⟩
  obtain ⟨e', m', h1, h2, rfl⟩ := loop
  have hany : iAny (eVar 0) [some x, some (.l m.length), none, none, none, none, none] (m ++ [.lst []]) = some ((ss.map sx).map EV.d, srcC x (ss.map sx), m ++ [.lst []]) := src_any hx rfl _
  unfold bodyJ at h1
  simp only [List.map_map] at h1 hany
  simp [m_joined, b_joined, sizeLine_eq, fnM, fnOut, sSeq, sIf, sSet, sRet, sRetN, sNil, sEx, sAsg, sPar, sAug, eVar, eC, eBin, eBinF, eCB, c1, c2, c1F, aCons, aNil, eAnd, eOr, eNot, bNot, bTru, bAnd, bOr, bOf, eIf, eCall, eChain, eIs, eIs2, eNeg, eIsN, isnE, eLst, eTup, asD, eTupT, eIxT, eLstL, eApp, eGet, sPut, sSetIx, eSl, eSlF, oNo, oYes, eRev, gNm, gTp, setAll, vw, vwF, vwFs, truD, addD, subD, mulD', mulD, powD, ixD, lenD, cmpI, ltD, leD, gtD, geD, isT_int, isT_bool, isT_str, isT_list, isT_tuple, ty_int, ty_bool, ty_str, ty_list, ty_tuple, isT2, sFor, hany]
  rw [h1]
  simp [h2]

/-! ### yards, turned -/
theorem fil_true {α : Type} (xs : List α) : xs.filter (fun _ => true) = xs := List.filter_eq_self.mpr fun _ _ => rfl
theorem asI_map {α : Type} (p : α → Int) : ∀ xs : List α, asI (xs.map fun x => PyData.int (p x)) = some (xs.map p)
  | [] => rfl
  | x :: xs => by simp [asI, asI_map p xs]
def manyD : EV → PyData
  | .d (.tuple [_, _, z, _]) => z
  | _ => .none
def sumS (ss : List Sx) : Int := (ss.map Sx.m).sum
/-- a comprehension over a row, each item by itself -/
theorem lc_row {x : EV} {m : Mem} {ss : List Sx} {it : MIt} {es : List EV} {f : ME} {i : Nat} {e : Env'} (φ : Sx → PyData) (h1 : it e m = some (es, srcC x (ss.map sx), m)) (hx : Src x m (ss.map sx)) (tt : List Sx) (hes : es = (tt.map sx).map EV.d) (hl : tt.length ≤ 1000)
    (h : ∀ t ∈ tt, ∀ A : Mem, f ((wipeE e [i]).set i (some (.d (sx t)))) (m ++ A) = some (.d (φ t), m ++ A)) : eFrz (eLc it (gNm i) cYes f [i]) e m = some (.d (.list (tt.map φ)), m) := by
  subst hes
  refine frz_lc h1 rfl rfl ?_
  have go : ∀ (us : List Sx) (acc : List PyData), acc.length + us.length ≤ 1000 → (∀ t ∈ us, t ∈ tt) → lcL (gNm i) cYes f m.length (srcC x (ss.map sx)) (wipeE e [i]) ((us.map sx).map EV.d) (m ++ [.lst acc]) = some (m ++ [.lst (acc ++ us.map φ)]) := by
    intro us
    induction us with
    | nil => intro acc _ _; simp [lcL, src_C hx]
    | cons u us ih =>
      intro acc ha hu
      have e1 := h u (hu u List.mem_cons_self) [.lst acc]
      have hz : sizeLine = 16777216 := sizeLine_eq
      simp only [List.length_cons] at ha
      have e2 : acc.length < sizeLine := by omega
      simp only [List.map_cons, lcL, src_C hx, if_true, gNm, cYes]
      rw [e1]
      simp only [app_get, e2, if_true, app_set]
      rw [ih (acc ++ [φ u]) (by simp; omega) fun t ht => hu t (List.mem_cons_of_mem _ ht)]
      simp
  have := go tt [] (by simpa using hl) fun t ht => ht
  simpa using this
theorem src_any0 {x : EV} {m : Mem} {ds : List PyData} (h : Src x m ds) {e : Env'} {i : Nat} (he : e[i]? = some (some x)) : iAny (eVar i) e m = some (ds.map EV.d, srcC x ds, m) := by
  have := src_any h he []
  simpa using this
theorem src_rev0 {x : EV} {m : Mem} {ds : List PyData} (h : Src x m ds) {e : Env'} {i : Nat} (he : e[i]? = some (some x)) : iRv (eVar i) e m = some (ds.reverse.map EV.d, srcC x ds, m) := by
  have := src_rev h he []
  simpa using this
theorem r_yards {x : EV} {m : Mem} {ss : List Sx} (hx : Src x m (ss.map sx)) (hl : ss.length ≤ 1000) : m_yards [x] m = some (.d (.int (sumS ss)), m) := by
  have h2 : ∀ t : Sx, L2.atI [PyData.str t.w, .int t.f, .int t.m, .int t.y] 2 = some (.int t.m) := fun _ => rfl
  have hc : eFrz (eLc (iAny (eVar 0)) (gNm 1) cYes (eBin ixD (eVar 1) (eC (.int 2))) [1]) [some x, none] m = some (.d (.list (ss.map fun t => .int t.m)), m) :=
    lc_row (fun t => .int t.m) (src_any0 hx rfl) hx ss rfl hl fun t _ A => by simp [sizeLine_eq, fnM, fnOut, sSeq, sIf, sSet, sRet, sRetN, sNil, sEx, sAsg, sPar, sAug, eVar, eC, eBin, eBinF, eCB, c1, c2, c1F, aCons, aNil, eAnd, eOr, eNot, bNot, bTru, bAnd, bOr, bOf, eIf, eCall, eChain, eIs, eIs2, eNeg, eIsN, isnE, eLst, eTup, asD, eTupT, eIxT, eLstL, eApp, eGet, sPut, sSetIx, eSl, eSlF, oNo, oYes, eRev, gNm, gTp, setAll, vw, vwF, vwFs, truD, addD, subD, mulD', mulD, powD, ixD, lenD, cmpI, ltD, leD, gtD, geD, isT_int, isT_bool, isT_str, isT_list, isT_tuple, ty_int, ty_bool, ty_str, ty_list, ty_tuple, isT2, wipeE, sx, h2]
  simp [m_yards, b_yards, sizeLine_eq, fnM, fnOut, sSeq, sIf, sSet, sRet, sRetN, sNil, sEx, sAsg, sPar, sAug, eVar, eC, eBin, eBinF, eCB, c1, c2, c1F, aCons, aNil, eAnd, eOr, eNot, bNot, bTru, bAnd, bOr, bOf, eIf, eCall, eChain, eIs, eIs2, eNeg, eIsN, isnE, eLst, eTup, asD, eTupT, eIxT, eLstL, eApp, eGet, sPut, sSetIx, eSl, eSlF, oNo, oYes, eRev, gNm, gTp, setAll, vw, vwF, vwFs, truD, addD, subD, mulD', mulD, powD, ixD, lenD, cmpI, ltD, leD, gtD, geD, isT_int, isT_bool, isT_str, isT_list, isT_tuple, ty_int, ty_bool, ty_str, ty_list, ty_tuple, isT2, hc, sumD, asI_map, sumS]
theorem r_about {t : Sx} {B : Nat} (m : Mem) (ht : okS B t) (hB : B < 2 ^ 70) : m_about [.d (sx t)] m = some (.d (sx (aboutS t)), m) := by
  have e3 := fun m => r_last_number (w := .str t.w) (f := t.f) m (n := t.m) (y := t.y) (small ht.m hB) (small (Nat.le_trans ht.y (by decide)) (by decide : 1 < 2 ^ 70))
  simp [m_about, b_about, sizeLine_eq, fnM, fnOut, sSeq, sIf, sSet, sRet, sRetN, sNil, sEx, sAsg, sPar, sAug, eVar, eC, eBin, eBinF, eCB, c1, c2, c1F, aCons, aNil, eAnd, eOr, eNot, bNot, bTru, bAnd, bOr, bOf, eIf, eCall, eChain, eIs, eIs2, eNeg, eIsN, isnE, eLst, eTup, asD, eTupT, eIxT, eLstL, eApp, eGet, sPut, sSetIx, eSl, eSlF, oNo, oYes, eRev, gNm, gTp, setAll, vw, vwF, vwFs, truD, addD, subD, mulD', mulD, powD, ixD, lenD, cmpI, ltD, leD, gtD, geD, isT_int, isT_bool, isT_str, isT_list, isT_tuple, ty_int, ty_bool, ty_str, ty_list, ty_tuple, isT2, sx, e3, aboutS]
theorem okS.about {B : Nat} {s : Sx} (h : okS B s) : okS B (aboutS s) := ⟨h.w, h.m, by show (-s.y).natAbs ≤ 1; rw [Int.natAbs_neg]; exact h.y⟩
def turnS (ss : List Sx) : List Sx := joinS (ss.reverse.map aboutS)
theorem src_list (m : Mem) (ds : List PyData) : Src (.d (.list ds)) m ds := .inl rfl
theorem r_turned {x : EV} {m : Mem} {ss : List Sx} {B : Nat} (hx : Src x m (ss.map sx)) (ok : ∀ s ∈ ss, okS B s) (hl : ss.length ≤ 1000) (hB : B * 1001 < 2 ^ 70) : m_turned [x] m = some (.l m.length, m ++ [.lst ((turnS ss).map sx)]) := by
  have hB1 : B < 2 ^ 70 := by omega
  have hc : eFrz (eLc (iRv (eVar 0)) (gNm 1) cYes (eCall m_about (aCons (eVar 1) aNil)) [1]) [some x, none] m = some (.d (.list ((ss.reverse.map aboutS).map sx)), m) := by
    rw [List.map_map]
    exact lc_row (fun t => sx (aboutS t)) (src_rev0 hx rfl) hx ss.reverse (by simp) (by simpa using hl) fun t ht A => by
      have := r_about (m ++ A) (ok t (by simpa using ht)) hB1
      simp [sizeLine_eq, fnM, fnOut, sSeq, sIf, sSet, sRet, sRetN, sNil, sEx, sAsg, sPar, sAug, eVar, eC, eBin, eBinF, eCB, c1, c2, c1F, aCons, aNil, eAnd, eOr, eNot, bNot, bTru, bAnd, bOr, bOf, eIf, eCall, eChain, eIs, eIs2, eNeg, eIsN, isnE, eLst, eTup, asD, eTupT, eIxT, eLstL, eApp, eGet, sPut, sSetIx, eSl, eSlF, oNo, oYes, eRev, gNm, gTp, setAll, vw, vwF, vwFs, truD, addD, subD, mulD', mulD, powD, ixD, lenD, cmpI, ltD, leD, gtD, geD, isT_int, isT_bool, isT_str, isT_list, isT_tuple, ty_int, ty_bool, ty_str, ty_list, ty_tuple, isT2, wipeE, this]
  have hj := r_joined (x := .d (.list ((ss.reverse.map aboutS).map sx))) (m := m) (ss := ss.reverse.map aboutS) (B := B) (src_list _ _) (fun s hs => by
    obtain ⟨t, ht, rfl⟩ := List.mem_map.mp hs
    exact (ok t (by simpa using ht)).about) (by simpa using hl) hB
  simp [-List.map_reverse, -List.map_map, m_turned, b_turned, sizeLine_eq, fnM, fnOut, sSeq, sIf, sSet, sRet, sRetN, sNil, sEx, sAsg, sPar, sAug, eVar, eC, eBin, eBinF, eCB, c1, c2, c1F, aCons, aNil, eAnd, eOr, eNot, bNot, bTru, bAnd, bOr, bOf, eIf, eCall, eChain, eIs, eIs2, eNeg, eIsN, isnE, eLst, eTup, asD, eTupT, eIxT, eLstL, eApp, eGet, sPut, sSetIx, eSl, eSlF, oNo, oYes, eRev, gNm, gTp, setAll, vw, vwF, vwFs, truD, addD, subD, mulD', mulD, powD, ixD, lenD, cmpI, ltD, leD, gtD, geD, isT_int, isT_bool, isT_str, isT_list, isT_tuple, ty_int, ty_bool, ty_str, ty_list, ty_tuple, isT2, hc, hj, turnS]
end Lw
set_option Elab.async false
set_option linter.all false
set_option maxRecDepth 10000
set_option maxHeartbeats 4000000
namespace Lw
open PySem PySem.Spec PyProof.Rows DL L2

theorem r_law_whole (x : PyData) (lo hi : Int) (m : Mem) : m__law_whole [.d x, .d (.int lo), .d (.int hi)] m = some (.d (.bool (fromToB x lo hi)), m) := by
  cases x
  case int i => by_cases h : lo ≤ i <;> simp [m__law_whole, b__law_whole, sizeLine_eq, fnM, fnOut, sSeq, sIf, sSet, sRet, sRetN, sNil, sEx, sAsg, sPar, sAug, eVar, eC, eBin, eBinF, eCB, c1, c2, c1F, aCons, aNil, eAnd, eOr, eNot, bNot, bTru, bAnd, bOr, bOf, eIf, eCall, eChain, eIs, eIs2, eNeg, eIsN, isnE, eLst, eTup, asD, eTupT, eIxT, eLstL, eApp, eGet, sPut, sSetIx, eSl, eSlF, oNo, oYes, eRev, gNm, gTp, setAll, vw, vwF, vwFs, truD, addD, subD, mulD', mulD, powD, ixD, lenD, cmpI, ltD, leD, gtD, geD, isT_int, isT_bool, isT_str, isT_list, isT_tuple, ty_int, ty_bool, ty_str, ty_list, ty_tuple, isT2, fromToB, h]
  all_goals simp [m__law_whole, b__law_whole, sizeLine_eq, fnM, fnOut, sSeq, sIf, sSet, sRet, sRetN, sNil, sEx, sAsg, sPar, sAug, eVar, eC, eBin, eBinF, eCB, c1, c2, c1F, aCons, aNil, eAnd, eOr, eNot, bNot, bTru, bAnd, bOr, bOf, eIf, eCall, eChain, eIs, eIs2, eNeg, eIsN, isnE, eLst, eTup, asD, eTupT, eIxT, eLstL, eApp, eGet, sPut, sSetIx, eSl, eSlF, oNo, oYes, eRev, gNm, gTp, setAll, vw, vwF, vwFs, truD, addD, subD, mulD', mulD, powD, ixD, lenD, cmpI, ltD, leD, gtD, geD, isT_int, isT_bool, isT_str, isT_list, isT_tuple, ty_int, ty_bool, ty_str, ty_list, ty_tuple, isT2, fromToB]
theorem eq_nil_list (xs : List PyData) : eqD (.list xs) (.list []) = some (.bool xs.isEmpty) := by
  have h0 : SeqAt.shaped (.list []) = true := rfl
  cases xs with
  | nil => simp [eqD, h0, PyData.eqv, PyData.eqvAll]
  | cons x xs =>
    by_cases h : SeqAt.shaped (.list (x :: xs)) = true
    · simp [eqD, h, h0, PyData.eqv, PyData.eqvAll]
    · simp [eqD, h, h0, vsNil]
theorem ne_nil_list (xs : List PyData) : neD (.list xs) (.list []) = some (.bool !xs.isEmpty) := by
  have h0 : SeqAt.shaped (.list []) = true := rfl
  cases xs with
  | nil => simp [neD, h0, PyData.eqv, PyData.eqvAll]
  | cons x xs =>
    by_cases h : SeqAt.shaped (.list (x :: xs)) = true
    · simp [neD, h, h0, PyData.eqv, PyData.eqvAll]
    · simp [neD, h, h0, vsNil]
theorem emp_filter {α β : Type} (g : α → β) (p : α → Bool) : ∀ l : List α, ((l.filter fun c => !p c).map g).isEmpty = l.all p
  | [] => rfl
  | a :: l => by
    have := emp_filter g p l
    cases h : p a <;> simp [List.filter_cons, h]
    simpa using this
theorem r_law_is_word {x : PyData} {n k : Nat} (m : Mem) (h : gd n k x) (hn : n ≤ 1000) : m__law_is_word [.d x] m = some (.d (.bool (wordB x)), m) := by
  have hz := sizeLine_eq
  cases x with
  | str s =>
    have hl := (gd_str h).1
    have hs2 : s.length ≤ 16777216 := by omega
    obtain ⟨L, hc, e1⟩ : ∃ L, eFrz (eLc (iAny (eVar 0)) (gNm 1) (bOf (eBin notinD (eVar 1) (eC (.str "abcdefghijklmnopqrstuvwxyz")))) (eVar 1) [1]) [some (.d (.str s)), none] m = some (.d (.list L), m) ∧ eqD (.list L) (.list []) = some (.bool (s.cps.toList.all fun c => decide (c ∈ abc.cps.toList))) := by
      refine ⟨_, ?_, (eq_nil_list _).trans (congrArg (fun b => some (PyData.bool b)) (emp_filter (fun c => PyData.str ⟨#[c]⟩) _ _))⟩
      refine (frz_pure (xs := s.cps.toList.map fun c => EV.d (.str ⟨#[c]⟩)) (fun v => match v with | .d y => y | _ => .none) (fun v => match v with | .d (.str z) => !decide (z.cps.toList.headD 0 ∈ abc.cps.toList) | _ => false) (by simp [iAny, eVar]) (by rw [List.length_map, ← str_len]; omega) ?_).trans ?_
      · intro v hv acc
        rw [List.mem_map] at hv
        obtain ⟨c, hc, rfl⟩ := hv
        refine ⟨[some (.d (.str s)), some (.d (.str ⟨#[c]⟩))], rfl, ?_, fun _ => rfl⟩
        simp [bOf, eBin, eVar, eC, vw, notinD, negD, inD, Str.ofString]
      · rw [List.filter_map, List.map_map]
        rfl
    by_cases h1 : 1 ≤ (s.length : Int)
    · by_cases h2 : (s.length : Int) ≤ 8
      · have h3 : 1 ≤ s.length := by omega
        have h4 : s.length ≤ 8 := by omega
        simp [m__law_is_word, b__law_is_word, sizeLine_eq, fnM, fnOut, sSeq, sIf, sSet, sRet, sRetN, sNil, sEx, sAsg, sPar, sAug, eVar, eC, eBin, eBinF, eCB, c1, c2, c1F, aCons, aNil, eAnd, eOr, eNot, bNot, bTru, bAnd, bOr, bOf, eIf, eCall, eChain, eIs, eIs2, eNeg, eIsN, isnE, eLst, eTup, asD, eTupT, eIxT, eLstL, eApp, eGet, sPut, sSetIx, eSl, eSlF, oNo, oYes, eRev, gNm, gTp, setAll, vw, vwF, vwFs, truD, addD, subD, mulD', mulD, powD, ixD, lenD, cmpI, ltD, leD, gtD, geD, isT_int, isT_bool, isT_str, isT_list, isT_tuple, ty_int, ty_bool, ty_str, ty_list, ty_tuple, isT2, hs2, h1, h2, hc, e1, wordB, wordS, h3, h4, -List.all_eq_true, -List.all_eq_false]
      · have h4 : ¬ s.length ≤ 8 := by omega
        simp [m__law_is_word, b__law_is_word, sizeLine_eq, fnM, fnOut, sSeq, sIf, sSet, sRet, sRetN, sNil, sEx, sAsg, sPar, sAug, eVar, eC, eBin, eBinF, eCB, c1, c2, c1F, aCons, aNil, eAnd, eOr, eNot, bNot, bTru, bAnd, bOr, bOf, eIf, eCall, eChain, eIs, eIs2, eNeg, eIsN, isnE, eLst, eTup, asD, eTupT, eIxT, eLstL, eApp, eGet, sPut, sSetIx, eSl, eSlF, oNo, oYes, eRev, gNm, gTp, setAll, vw, vwF, vwFs, truD, addD, subD, mulD', mulD, powD, ixD, lenD, cmpI, ltD, leD, gtD, geD, isT_int, isT_bool, isT_str, isT_list, isT_tuple, ty_int, ty_bool, ty_str, ty_list, ty_tuple, isT2, hs2, h1, h2, h4, wordB, wordS]
    · have h3 : ¬ 1 ≤ s.length := by omega
      simp [m__law_is_word, b__law_is_word, sizeLine_eq, fnM, fnOut, sSeq, sIf, sSet, sRet, sRetN, sNil, sEx, sAsg, sPar, sAug, eVar, eC, eBin, eBinF, eCB, c1, c2, c1F, aCons, aNil, eAnd, eOr, eNot, bNot, bTru, bAnd, bOr, bOf, eIf, eCall, eChain, eIs, eIs2, eNeg, eIsN, isnE, eLst, eTup, asD, eTupT, eIxT, eLstL, eApp, eGet, sPut, sSetIx, eSl, eSlF, oNo, oYes, eRev, gNm, gTp, setAll, vw, vwF, vwFs, truD, addD, subD, mulD', mulD, powD, ixD, lenD, cmpI, ltD, leD, gtD, geD, isT_int, isT_bool, isT_str, isT_list, isT_tuple, ty_int, ty_bool, ty_str, ty_list, ty_tuple, isT2, hs2, h1, h3, wordB, wordS]
  | _ => simp [m__law_is_word, b__law_is_word, sizeLine_eq, fnM, fnOut, sSeq, sIf, sSet, sRet, sRetN, sNil, sEx, sAsg, sPar, sAug, eVar, eC, eBin, eBinF, eCB, c1, c2, c1F, aCons, aNil, eAnd, eOr, eNot, bNot, bTru, bAnd, bOr, bOf, eIf, eCall, eChain, eIs, eIs2, eNeg, eIsN, isnE, eLst, eTup, asD, eTupT, eIxT, eLstL, eApp, eGet, sPut, sSetIx, eSl, eSlF, oNo, oYes, eRev, gNm, gTp, setAll, vw, vwF, vwFs, truD, addD, subD, mulD', mulD, powD, ixD, lenD, cmpI, ltD, leD, gtD, geD, isT_int, isT_bool, isT_str, isT_list, isT_tuple, ty_int, ty_bool, ty_str, ty_list, ty_tuple, isT2, wordB]
end Lw
set_option Elab.async false
set_option linter.all false
set_option maxRecDepth 10000
set_option maxHeartbeats 4000000
namespace Lw
open PySem PySem.Spec PyProof.Rows DL L2

def yardsB : PyData → Bool
  | .tuple [w, f, n, y] => wordB w && (fromToB f 0 big && (fromToB n 1 1000000000000000001 && (fromToB y (-1) 1 && (match f, n, y with
    | .int f, .int n, .int y => !(y == 0) && (decide (0 ≤ f + y * (n - 1)) && decide (f + y * (n - 1) ≤ big))
    | _, _, _ => false))))
  | _ => false
theorem yardsB_eq (x : PyData) : yardsB x = stretchB x := by
  unfold yardsB stretchB
  split
  · rename_i w f n y
    cases f with
    | int f => cases n with
      | int n => cases y with
        | int y =>
          cases hw : wordB w with
          | false => simp [hw]
          | true =>
            simp only [Bool.true_and, fromToB, hw]
            rw [Bool.eq_iff_iff]
            simp only [Bool.and_eq_true, Bool.or_eq_true, decide_eq_true_eq, Bool.not_eq_true', beq_eq_false_iff_ne, ne_eq]
            have hb : (big : Int) = 1000000000000000000 := rfl
            constructor
            · rintro ⟨⟨a, b⟩, ⟨c, d⟩, ⟨e, g⟩, h, i, j⟩
              have hy : y = 1 ∨ y = -1 := by omega
              rcases hy with rfl | rfl
              · refine ⟨⟨⟨c, .inl rfl⟩, a, b⟩, ?_, ?_⟩ <;> omega
              · refine ⟨⟨⟨c, .inr rfl⟩, a, b⟩, ?_, ?_⟩ <;> omega
            · rintro ⟨⟨⟨c, h⟩, a, b⟩, i, j⟩
              rcases h with rfl | rfl
              · refine ⟨⟨a, b⟩, ⟨c, ?_⟩, ⟨by decide, by decide⟩, by decide, ?_, ?_⟩ <;> omega
              · refine ⟨⟨a, b⟩, ⟨c, ?_⟩, ⟨by decide, by decide⟩, by decide, ?_, ?_⟩ <;> omega
        | _ => simp [fromToB]
      | _ => simp [fromToB]
    | _ => simp [fromToB]
  · rename_i h
    split
    · rename_i w f n y
      exact absurd rfl (h w (.int f) (.int n) (.int y))
    · rfl
theorem at0 (a b c d : PyData) : L2.atI [a, b, c, d] 0 = some a := rfl
theorem at1 (a b c d : PyData) : L2.atI [a, b, c, d] 1 = some b := rfl
theorem at2 (a b c d : PyData) : L2.atI [a, b, c, d] 2 = some c := rfl
theorem at3 (a b c d : PyData) : L2.atI [a, b, c, d] 3 = some d := rfl
theorem r_law_is_yards {x : PyData} {n k : Nat} (m : Mem) (h : gd n k x) (hn : n ≤ 1000) : m__law_is_yards [.d x] m = some (.d (.bool (yardsB x)), m) := by
  cases x with
  | tuple xs =>
    obtain ⟨j, rfl, hl, hx⟩ := gd_tuple h
    by_cases h4 : xs.length = 4
    · obtain ⟨w, f, c, y, rfl⟩ : ∃ w f c y, xs = [w, f, c, y] := by
        match xs, h4 with
        | [w, f, c, y], _ => exact ⟨w, f, c, y, rfl⟩
      have hw := hx w (by simp)
      have e1 := fun m => r_law_is_word m hw hn
      have b2 : ((10 : Int) ^ 18 + 1) = big + 1 := rfl
      have b1 : ((10 : Int) ^ 18) = big := rfl
      cases ew : wordB w with
      | false => simp [m__law_is_yards, b__law_is_yards, sizeLine_eq, fnM, fnOut, sSeq, sIf, sSet, sRet, sRetN, sNil, sEx, sAsg, sPar, sAug, eVar, eC, eBin, eBinF, eCB, c1, c2, c1F, aCons, aNil, eAnd, eOr, eNot, bNot, bTru, bAnd, bOr, bOf, eIf, eCall, eChain, eIs, eIs2, eNeg, eIsN, isnE, eLst, eTup, asD, eTupT, eIxT, eLstL, eApp, eGet, sPut, sSetIx, eSl, eSlF, oNo, oYes, eRev, gNm, gTp, setAll, vw, vwF, vwFs, truD, addD, subD, mulD', mulD, powD, ixD, lenD, cmpI, ltD, leD, gtD, geD, isT_int, isT_bool, isT_str, isT_list, isT_tuple, ty_int, ty_bool, ty_str, ty_list, ty_tuple, isT2, at0, at1, at2, at3, neD_int, e1, ew, yardsB]
      | true =>
      cases hf : fromToB f 0 big with
      | false => simp [m__law_is_yards, b__law_is_yards, sizeLine_eq, fnM, fnOut, sSeq, sIf, sSet, sRet, sRetN, sNil, sEx, sAsg, sPar, sAug, eVar, eC, eBin, eBinF, eCB, c1, c2, c1F, aCons, aNil, eAnd, eOr, eNot, bNot, bTru, bAnd, bOr, bOf, eIf, eCall, eChain, eIs, eIs2, eNeg, eIsN, isnE, eLst, eTup, asD, eTupT, eIxT, eLstL, eApp, eGet, sPut, sSetIx, eSl, eSlF, oNo, oYes, eRev, gNm, gTp, setAll, vw, vwF, vwFs, truD, addD, subD, mulD', mulD, powD, ixD, lenD, cmpI, ltD, leD, gtD, geD, isT_int, isT_bool, isT_str, isT_list, isT_tuple, ty_int, ty_bool, ty_str, ty_list, ty_tuple, isT2, at0, at1, at2, at3, neD_int, e1, ew, yardsB, r_law_whole, hf]
      | true =>
      cases hc : fromToB c 1 1000000000000000001 with
      | false => simp [m__law_is_yards, b__law_is_yards, sizeLine_eq, fnM, fnOut, sSeq, sIf, sSet, sRet, sRetN, sNil, sEx, sAsg, sPar, sAug, eVar, eC, eBin, eBinF, eCB, c1, c2, c1F, aCons, aNil, eAnd, eOr, eNot, bNot, bTru, bAnd, bOr, bOf, eIf, eCall, eChain, eIs, eIs2, eNeg, eIsN, isnE, eLst, eTup, asD, eTupT, eIxT, eLstL, eApp, eGet, sPut, sSetIx, eSl, eSlF, oNo, oYes, eRev, gNm, gTp, setAll, vw, vwF, vwFs, truD, addD, subD, mulD', mulD, powD, ixD, lenD, cmpI, ltD, leD, gtD, geD, isT_int, isT_bool, isT_str, isT_list, isT_tuple, ty_int, ty_bool, ty_str, ty_list, ty_tuple, isT2, at0, at1, at2, at3, neD_int, e1, ew, yardsB, r_law_whole, hf, hc]
      | true =>
      cases hy : fromToB y (-1) 1 with
      | false => simp [m__law_is_yards, b__law_is_yards, sizeLine_eq, fnM, fnOut, sSeq, sIf, sSet, sRet, sRetN, sNil, sEx, sAsg, sPar, sAug, eVar, eC, eBin, eBinF, eCB, c1, c2, c1F, aCons, aNil, eAnd, eOr, eNot, bNot, bTru, bAnd, bOr, bOf, eIf, eCall, eChain, eIs, eIs2, eNeg, eIsN, isnE, eLst, eTup, asD, eTupT, eIxT, eLstL, eApp, eGet, sPut, sSetIx, eSl, eSlF, oNo, oYes, eRev, gNm, gTp, setAll, vw, vwF, vwFs, truD, addD, subD, mulD', mulD, powD, ixD, lenD, cmpI, ltD, leD, gtD, geD, isT_int, isT_bool, isT_str, isT_list, isT_tuple, ty_int, ty_bool, ty_str, ty_list, ty_tuple, isT2, at0, at1, at2, at3, neD_int, e1, ew, yardsB, r_law_whole, hf, hc, hy]
      | true =>
      obtain ⟨f, rfl⟩ : ∃ i, f = .int i := by cases f <;> simp [fromToB] at hf; exact ⟨_, rfl⟩
      obtain ⟨c, rfl⟩ : ∃ i, c = .int i := by cases c <;> simp [fromToB] at hc; exact ⟨_, rfl⟩
      obtain ⟨y, rfl⟩ : ∃ i, y = .int i := by cases y <;> simp [fromToB] at hy; exact ⟨_, rfl⟩
      have hc' : 1 ≤ c ∧ c ≤ 1000000000000000001 := by simpa [fromToB] using hc
      have hy' : -1 ≤ y ∧ y ≤ 1 := by simpa [fromToB] using hy
      have hm : y.natAbs.log2 + (c - 1).natAbs.log2 < 1000000 := mul_ok (a := 2) (b := 70) (by omega) (by have : (2:Nat)^70 = 1180591620717411303424 := rfl; omega) (by decide) (by decide) (by decide)
      cases hy0 : (y == 0) with
      | true => 
        have : y = 0 := by simpa using hy0
        subst this
        simp [m__law_is_yards, b__law_is_yards, sizeLine_eq, fnM, fnOut, sSeq, sIf, sSet, sRet, sRetN, sNil, sEx, sAsg, sPar, sAug, eVar, eC, eBin, eBinF, eCB, c1, c2, c1F, aCons, aNil, eAnd, eOr, eNot, bNot, bTru, bAnd, bOr, bOf, eIf, eCall, eChain, eIs, eIs2, eNeg, eIsN, isnE, eLst, eTup, asD, eTupT, eIxT, eLstL, eApp, eGet, sPut, sSetIx, eSl, eSlF, oNo, oYes, eRev, gNm, gTp, setAll, vw, vwF, vwFs, truD, addD, subD, mulD', mulD, powD, ixD, lenD, cmpI, ltD, leD, gtD, geD, isT_int, isT_bool, isT_str, isT_list, isT_tuple, ty_int, ty_bool, ty_str, ty_list, ty_tuple, isT2, at0, at1, at2, at3, neD_int, e1, ew, yardsB, r_law_whole, hf, hc, hy]
      | false =>
        by_cases hp : 0 ≤ f + y * (c - 1) <;> simp [m__law_is_yards, b__law_is_yards, sizeLine_eq, fnM, fnOut, sSeq, sIf, sSet, sRet, sRetN, sNil, sEx, sAsg, sPar, sAug, eVar, eC, eBin, eBinF, eCB, c1, c2, c1F, aCons, aNil, eAnd, eOr, eNot, bNot, bTru, bAnd, bOr, bOf, eIf, eCall, eChain, eIs, eIs2, eNeg, eIsN, isnE, eLst, eTup, asD, eTupT, eIxT, eLstL, eApp, eGet, sPut, sSetIx, eSl, eSlF, oNo, oYes, eRev, gNm, gTp, setAll, vw, vwF, vwFs, truD, addD, subD, mulD', mulD, powD, ixD, lenD, cmpI, ltD, leD, gtD, geD, isT_int, isT_bool, isT_str, isT_list, isT_tuple, ty_int, ty_bool, ty_str, ty_list, ty_tuple, isT2, at0, at1, at2, at3, neD_int, e1, ew, yardsB, r_law_whole, hf, hc, hy, hy0, hm, hp]
    · have h5 : ((xs.length : Int) == 4) = false := by simp; omega
      have : yardsB (.tuple xs) = false := by
        unfold yardsB
        split
        · rename_i e; cases e; simp at h4
        · rfl
      simp [m__law_is_yards, b__law_is_yards, sizeLine_eq, fnM, fnOut, sSeq, sIf, sSet, sRet, sRetN, sNil, sEx, sAsg, sPar, sAug, eVar, eC, eBin, eBinF, eCB, c1, c2, c1F, aCons, aNil, eAnd, eOr, eNot, bNot, bTru, bAnd, bOr, bOf, eIf, eCall, eChain, eIs, eIs2, eNeg, eIsN, isnE, eLst, eTup, asD, eTupT, eIxT, eLstL, eApp, eGet, sPut, sSetIx, eSl, eSlF, oNo, oYes, eRev, gNm, gTp, setAll, vw, vwF, vwFs, truD, addD, subD, mulD', mulD, powD, ixD, lenD, cmpI, ltD, leD, gtD, geD, isT_int, isT_bool, isT_str, isT_list, isT_tuple, ty_int, ty_bool, ty_str, ty_list, ty_tuple, isT2, at0, at1, at2, at3, neD_int, h5, this]
  | _ => simp [m__law_is_yards, b__law_is_yards, sizeLine_eq, fnM, fnOut, sSeq, sIf, sSet, sRet, sRetN, sNil, sEx, sAsg, sPar, sAug, eVar, eC, eBin, eBinF, eCB, c1, c2, c1F, aCons, aNil, eAnd, eOr, eNot, bNot, bTru, bAnd, bOr, bOf, eIf, eCall, eChain, eIs, eIs2, eNeg, eIsN, isnE, eLst, eTup, asD, eTupT, eIxT, eLstL, eApp, eGet, sPut, sSetIx, eSl, eSlF, oNo, oYes, eRev, gNm, gTp, setAll, vw, vwF, vwFs, truD, addD, subD, mulD', mulD, powD, ixD, lenD, cmpI, ltD, leD, gtD, geD, isT_int, isT_bool, isT_str, isT_list, isT_tuple, ty_int, ty_bool, ty_str, ty_list, ty_tuple, isT2, yardsB]
def rowB : PyData → Bool
  | .list xs => xs.all stretchB
  | .tuple xs => xs.all stretchB
  | _ => false
theorem gd_mem {n k : Nat} {xs : List PyData} (h : gd n k (.list xs) ∨ gd n k (.tuple xs)) : xs.length ≤ n ∧ ∃ j, ∀ y ∈ xs, gd n j y := by
  rcases h with h | h
  · obtain ⟨j, _, a, b⟩ := gd_list h; exact ⟨a, j, b⟩
  · obtain ⟨j, _, a, b⟩ := gd_tuple h; exact ⟨a, j, b⟩
theorem any_d (c : PyData) (xs : List PyData) (hc : c = .list xs ∨ c = .tuple xs) (e : Env') (m : Mem) (he : e[0]? = some (some (.d c))) : iAny (eVar 0) e m = some (xs.map EV.d, noC, m) := by
  rcases hc with rfl | rfl <;> simp [iAny, eVar, he]
theorem lawRow_c {c : PyData} {xs : List PyData} {n k : Nat} (m : Mem) (hc : c = .list xs ∨ c = .tuple xs) (h : gd n k c) (hn : n ≤ 1000) :
    ∃ L, eFrz (eLc (iAny (eVar 0)) (gNm 1) (bNot (bTru (eCall m__law_is_yards (aCons (eVar 1) aNil)))) (eVar 1) [1]) [some (.d c), none] m = some (.d (.list L), m) ∧ eqD (.list L) (.list []) = some (.bool (xs.all stretchB)) := by
  have hz := sizeLine_eq
  have hg : gd n k (.list xs) ∨ gd n k (.tuple xs) := by rcases hc with rfl | rfl <;> simp [h]
  obtain ⟨hl, j, hx⟩ := gd_mem hg
  refine ⟨_, ?_, (eq_nil_list _).trans (congrArg (fun b => some (PyData.bool b)) (emp_filter (fun c => c) stretchB xs))⟩
  refine (frz_pure (xs := xs.map EV.d) (fun v => match v with | .d y => y | _ => .none) (fun v => match v with | .d z => !stretchB z | _ => false) (any_d c xs hc _ _ rfl) (by rw [List.length_map]; omega) ?_).trans ?_
  · intro v hv acc
    rw [List.mem_map] at hv
    obtain ⟨y, hy, rfl⟩ := hv
    refine ⟨[some (.d c), some (.d y)], rfl, ?_, fun _ => rfl⟩
    have := fun m => r_law_is_yards m (hx y hy) hn
    simp [bNot, bTru, eCall, aCons, aNil, eVar, this, vw, truD, yardsB_eq]
  · rw [List.filter_map, List.map_map]
    rfl
theorem r_law_is_row {x : PyData} {n k : Nat} (m : Mem) (h : gd n k x) (hn : n ≤ 1000) : m__law_is_row [.d x] m = some (.d (.bool (rowB x)), m) := by
  cases x with
  | list xs =>
    obtain ⟨L, h1, h2⟩ := lawRow_c m (.inl rfl) h hn
    simp [m__law_is_row, b__law_is_row, sizeLine_eq, fnM, fnOut, sSeq, sIf, sSet, sRet, sRetN, sNil, sEx, sAsg, sPar, sAug, eVar, eC, eBin, eBinF, eCB, c1, c2, c1F, aCons, aNil, eAnd, eOr, eNot, bNot, bTru, bAnd, bOr, bOf, eIf, eCall, eChain, eIs, eIs2, eNeg, eIsN, isnE, eLst, eTup, asD, eTupT, eIxT, eLstL, eApp, eGet, sPut, sSetIx, eSl, eSlF, oNo, oYes, eRev, gNm, gTp, setAll, vw, vwF, vwFs, truD, addD, subD, mulD', mulD, powD, ixD, lenD, cmpI, ltD, leD, gtD, geD, isT_int, isT_bool, isT_str, isT_list, isT_tuple, ty_int, ty_bool, ty_str, ty_list, ty_tuple, isT2, h1, h2, rowB]
  | tuple xs =>
    obtain ⟨L, h1, h2⟩ := lawRow_c m (.inr rfl) h hn
    simp [m__law_is_row, b__law_is_row, sizeLine_eq, fnM, fnOut, sSeq, sIf, sSet, sRet, sRetN, sNil, sEx, sAsg, sPar, sAug, eVar, eC, eBin, eBinF, eCB, c1, c2, c1F, aCons, aNil, eAnd, eOr, eNot, bNot, bTru, bAnd, bOr, bOf, eIf, eCall, eChain, eIs, eIs2, eNeg, eIsN, isnE, eLst, eTup, asD, eTupT, eIxT, eLstL, eApp, eGet, sPut, sSetIx, eSl, eSlF, oNo, oYes, eRev, gNm, gTp, setAll, vw, vwF, vwFs, truD, addD, subD, mulD', mulD, powD, ixD, lenD, cmpI, ltD, leD, gtD, geD, isT_int, isT_bool, isT_str, isT_list, isT_tuple, ty_int, ty_bool, ty_str, ty_list, ty_tuple, isT2, h1, h2, rowB]
  | _ => simp [m__law_is_row, b__law_is_row, sizeLine_eq, fnM, fnOut, sSeq, sIf, sSet, sRet, sRetN, sNil, sEx, sAsg, sPar, sAug, eVar, eC, eBin, eBinF, eCB, c1, c2, c1F, aCons, aNil, eAnd, eOr, eNot, bNot, bTru, bAnd, bOr, bOf, eIf, eCall, eChain, eIs, eIs2, eNeg, eIsN, isnE, eLst, eTup, asD, eTupT, eIxT, eLstL, eApp, eGet, sPut, sSetIx, eSl, eSlF, oNo, oYes, eRev, gNm, gTp, setAll, vw, vwF, vwFs, truD, addD, subD, mulD', mulD, powD, ixD, lenD, cmpI, ltD, leD, gtD, geD, isT_int, isT_bool, isT_str, isT_list, isT_tuple, ty_int, ty_bool, ty_str, ty_list, ty_tuple, isT2, rowB]
theorem row_c {c : PyData} {xs : List PyData} {n k : Nat} (m : Mem) (hc : c = .list xs ∨ c = .tuple xs) (h : gd n k c) (hn : n ≤ 1000) :
    eFrz (eLc (iAny (eVar 0)) (gNm 1) cYes (eCall m_is_stretch (aCons (eVar 1) aNil)) [1]) [some (.d c), none] m = some (.d (.list (xs.map fun y => .bool (stretchB y))), m) := by
  have hz := sizeLine_eq
  have hg : gd n k (.list xs) ∨ gd n k (.tuple xs) := by rcases hc with rfl | rfl <;> simp [h]
  obtain ⟨hl, j, hx⟩ := gd_mem hg
  refine (frz_pure (xs := xs.map EV.d) (fun v => match v with | .d y => .bool (stretchB y) | _ => .none) (fun _ => true) (any_d c xs hc _ _ rfl) (by rw [List.length_map]; omega) ?_).trans ?_
  · intro v hv acc
    rw [List.mem_map] at hv
    obtain ⟨y, hy, rfl⟩ := hv
    refine ⟨[some (.d c), some (.d y)], rfl, rfl, fun _ => ?_⟩
    have := fun m => r_is_stretch m (hx y hy) hn
    simp [eCall, aCons, aNil, eVar, this]
  · rw [fil_true, List.map_map]
    rfl
theorem r_is_row {x : PyData} {n k : Nat} (m : Mem) (h : gd n k x) (hn : n ≤ 1000) : m_is_row [.d x] m = some (.d (.bool (rowB x)), m) := by
  cases x with
  | list xs =>
    have h1 := row_c m (.inl rfl) h hn
    simp [m_is_row, b_is_row, sizeLine_eq, fnM, fnOut, sSeq, sIf, sSet, sRet, sRetN, sNil, sEx, sAsg, sPar, sAug, eVar, eC, eBin, eBinF, eCB, c1, c2, c1F, aCons, aNil, eAnd, eOr, eNot, bNot, bTru, bAnd, bOr, bOf, eIf, eCall, eChain, eIs, eIs2, eNeg, eIsN, isnE, eLst, eTup, asD, eTupT, eIxT, eLstL, eApp, eGet, sPut, sSetIx, eSl, eSlF, oNo, oYes, eRev, gNm, gTp, setAll, vw, vwF, vwFs, truD, addD, subD, mulD', mulD, powD, ixD, lenD, cmpI, ltD, leD, gtD, geD, isT_int, isT_bool, isT_str, isT_list, isT_tuple, ty_int, ty_bool, ty_str, ty_list, ty_tuple, isT2, h1, allD, asB_map, List.all_map, Function.comp_def, rowB]
  | tuple xs =>
    have h1 := row_c m (.inr rfl) h hn
    simp [m_is_row, b_is_row, sizeLine_eq, fnM, fnOut, sSeq, sIf, sSet, sRet, sRetN, sNil, sEx, sAsg, sPar, sAug, eVar, eC, eBin, eBinF, eCB, c1, c2, c1F, aCons, aNil, eAnd, eOr, eNot, bNot, bTru, bAnd, bOr, bOf, eIf, eCall, eChain, eIs, eIs2, eNeg, eIsN, isnE, eLst, eTup, asD, eTupT, eIxT, eLstL, eApp, eGet, sPut, sSetIx, eSl, eSlF, oNo, oYes, eRev, gNm, gTp, setAll, vw, vwF, vwFs, truD, addD, subD, mulD', mulD, powD, ixD, lenD, cmpI, ltD, leD, gtD, geD, isT_int, isT_bool, isT_str, isT_list, isT_tuple, ty_int, ty_bool, ty_str, ty_list, ty_tuple, isT2, h1, allD, asB_map, List.all_map, Function.comp_def, rowB]
  | _ => simp [m_is_row, b_is_row, sizeLine_eq, fnM, fnOut, sSeq, sIf, sSet, sRet, sRetN, sNil, sEx, sAsg, sPar, sAug, eVar, eC, eBin, eBinF, eCB, c1, c2, c1F, aCons, aNil, eAnd, eOr, eNot, bNot, bTru, bAnd, bOr, bOf, eIf, eCall, eChain, eIs, eIs2, eNeg, eIsN, isnE, eLst, eTup, asD, eTupT, eIxT, eLstL, eApp, eGet, sPut, sSetIx, eSl, eSlF, oNo, oYes, eRev, gNm, gTp, setAll, vw, vwF, vwFs, truD, addD, subD, mulD', mulD, powD, ixD, lenD, cmpI, ltD, leD, gtD, geD, isT_int, isT_bool, isT_str, isT_list, isT_tuple, ty_int, ty_bool, ty_str, ty_list, ty_tuple, isT2, rowB]
end Lw
set_option Elab.async false
set_option linter.all false
set_option maxRecDepth 10000
set_option maxHeartbeats 4000000
namespace Lw
open PySem PySem.Spec PyProof.Rows DL L2

structure Pen where
  cells : List Int
  turn : Int
  left : Int
def kv (p : Pen) : List (Key × PyData) := [(.inr (Str.ofString "cells"), .list (p.cells.map PyData.int)), (.inr (Str.ofString "turn"), .int p.turn), (.inr (Str.ofString "left"), .int p.left)]
def penO (p : Pen) : MO := .dct (kv p)
theorem k_ct : (Str.ofString "cells" = Str.ofString "turn") = False := eq_false (by decide +kernel)
theorem k_cl : (Str.ofString "cells" = Str.ofString "left") = False := eq_false (by decide +kernel)
theorem k_tl : (Str.ofString "turn" = Str.ofString "left") = False := eq_false (by decide +kernel)
theorem k_tc : (Str.ofString "turn" = Str.ofString "cells") = False := eq_false (by decide +kernel)
theorem k_lc : (Str.ofString "left" = Str.ofString "cells") = False := eq_false (by decide +kernel)
theorem k_lt : (Str.ofString "left" = Str.ofString "turn") = False := eq_false (by decide +kernel)
theorem g_cells (p : Pen) : getP (kv p) (.inr (Str.ofString "cells")) = some (.list (p.cells.map PyData.int)) := by
  simp only [getP, kv, List.find?, Sum.inr.injEq, k_ct, k_cl, decide_true, Option.map]
theorem g_turn (p : Pen) : getP (kv p) (.inr (Str.ofString "turn")) = some (.int p.turn) := by
  simp only [getP, kv, List.find?, Sum.inr.injEq, k_ct, k_tl, k_tc, decide_true, decide_false, Option.map]
theorem g_left (p : Pen) : getP (kv p) (.inr (Str.ofString "left")) = some (.int p.left) := by
  simp only [getP, kv, List.find?, Sum.inr.injEq, k_tl, k_cl, decide_true, decide_false, Option.map]
theorem p_turn (p : Pen) (i : Int) : putP (kv p) (.inr (Str.ofString "turn")) (.int i) = kv { p with turn := i } := by
  simp [putP, kv, k_ct, k_lt, k_tc]
theorem p_left (p : Pen) (i : Int) : putP (kv p) (.inr (Str.ofString "left")) (.int i) = kv { p with left := i } := by
  simp [putP, kv, k_ct, k_lt, k_tc, k_tl, k_cl]
theorem kv_len (p : Pen) : (kv p).length = 3 := rfl
theorem get_cells (p : Pen) (e : Env') (R : Mem) (h : e[0]? = some (some (.l 0))) : eGet (eVar 0) (eC (.str (Str.ofString "cells"))) e (penO p :: R) = some (.d (.list (p.cells.map PyData.int)), penO p :: R) := by
  simp [eGet, eVar, eC, h, penO, keyOf, g_cells]
theorem get_turn (p : Pen) (e : Env') (R : Mem) (h : e[0]? = some (some (.l 0))) : eGet (eVar 0) (eC (.str (Str.ofString "turn"))) e (penO p :: R) = some (.d (.int p.turn), penO p :: R) := by
  simp [eGet, eVar, eC, h, penO, keyOf, g_turn]
theorem get_left (p : Pen) (e : Env') (R : Mem) (h : e[0]? = some (some (.l 0))) : eGet (eVar 0) (eC (.str (Str.ofString "left"))) e (penO p :: R) = some (.d (.int p.left), penO p :: R) := by
  simp [eGet, eVar, eC, h, penO, keyOf, g_left]
theorem put_turn (p : Pen) (e : Env') (R : Mem) (f : ME) (i : Int) (h : e[0]? = some (some (.l 0))) (hf : f e (penO p :: R) = some (.d (.int i), penO p :: R)) : sPut f (eVar 0) (eC (.str (Str.ofString "turn"))) e (penO p :: R) = some (.nx e, penO { p with turn := i } :: R) := by
  have hz : sizeLine = 16777216 := sizeLine_eq
  simp [sPut, eVar, eC, h, hf, keyOf]
  simp [penO, p_turn, kv_len, hz]
theorem put_left (p : Pen) (e : Env') (R : Mem) (f : ME) (i : Int) (h : e[0]? = some (some (.l 0))) (hf : f e (penO p :: R) = some (.d (.int i), penO p :: R)) : sPut f (eVar 0) (eC (.str (Str.ofString "left"))) e (penO p :: R) = some (.nx e, penO { p with left := i } :: R) := by
  have hz : sizeLine = 16777216 := sizeLine_eq
  simp [sPut, eVar, eC, h, hf, keyOf]
  simp [penO, p_left, kv_len, hz]
structure okP (n : Nat) (p : Pen) : Prop where
  cells : p.cells.length ≤ 63
  t0 : 0 ≤ p.turn
  t1 : p.turn ≤ n
theorem okP.mono {n k : Nat} {p : Pen} (h : okP n p) (l : n ≤ k) : okP k p := ⟨h.cells, h.t0, by have := h.t1; omega⟩
theorem mulI {i j : Int} (hi : i.natAbs < 2 ^ 100) (hj : j.natAbs < 2 ^ 100) : mulD' (.int i) (.int j) = some (.int (i * j)) := by
  have := mul_ok hi hj (by decide) (by decide) (by decide)
  simp [mulD', mulD, this]
theorem atI_ok {α : Type} (l : List α) (i : Int) (h0 : 0 ≤ i) (h1 : i < l.length) : ∃ a ∈ l, L2.atI l i = some a := by
  refine ⟨l[i.toNat]'(by omega), List.getElem_mem _, ?_⟩
  have : ixN l.length i = some i.toNat := by unfold ixN; rw [if_pos h0, if_pos h1]
  simp only [L2.atI, this]
  exact List.getElem?_eq_getElem _
abbrev primes : List PyData := [.int 2147483647, .int 2147483629, .int 2147483587, .int 2147483579, .int 2147483563]
theorem prime_ok (i : Int) : ∃ q, L2.atI primes (i % 5) = some (.int q) ∧ 2147483563 ≤ q ∧ q ≤ 2147483647 := by
  obtain ⟨a, ha, h⟩ := atI_ok primes (i % 5) (Int.emod_nonneg _ (by decide)) (by have := Int.emod_lt_of_pos i (by decide : (0:Int) < 5); exact this)
  simp [primes] at ha
  rcases ha with rfl | rfl | rfl | rfl | rfl <;> exact ⟨_, h, by decide, by decide⟩
theorem modI {i j : Int} (h : 0 < j) : modD (.int i) (.int j) = some (.int (i % j)) := by simp [modD, h]
theorem divI {i j : Int} (h : 0 < j) (h2 : j ≤ 2 ^ 62) : fdivD (.int i) (.int j) = some (.int (i / j)) := by
  have : j.natAbs.log2 < 9000 := Nat.lt_of_lt_of_le (log2_lt (n := 63) (by have : (2:Int)^62 = 4611686018427387904 := rfl; have : (2:Nat)^63 = 9223372036854775808 := rfl; omega) (by decide)) (by decide)
  simp [fdivD, h, this]
theorem seq_nx {b c : MS} {e e1 : Env'} {m m1 : Mem} (h : b e m = some (.nx e1, m1)) : sSeq b c e m = c e1 m1 := by simp [sSeq, h]
theorem seq_rt {b c : MS} {e : Env'} {v : EV} {m m1 : Mem} (h : b e m = some (.rt v, m1)) : sSeq b c e m = some (.rt v, m1) := by simp [sSeq, h]
theorem set_k {i : Nat} {f : ME} {e : Env'} {v : EV} {m m1 : Mem} (h : f e m = some (v, m1)) : sSet i f e m = some (.nx (e.set i (some v)), m1) := by simp [sSet, h]
theorem ret_k {f : ME} {e : Env'} {v : EV} {m m1 : Mem} (h : f e m = some (v, m1)) : sRet f e m = some (.rt v, m1) := by simp [sRet, h]
theorem if_t {c : MB} {a b : MS} {e : Env'} {m m1 : Mem} (h : c e m = some (true, m1)) : sIf c a b e m = a e m1 := by simp [sIf, h]
theorem if_f {c : MB} {a b : MS} {e : Env'} {m m1 : Mem} (h : c e m = some (false, m1)) : sIf c a b e m = b e m1 := by simp [sIf, h]
theorem fn_rt {n N : Nat} {b : MS} {rs : List EV} {o o' : MO} {R : Mem} {x : PyData} (hn : rs.length = n) (h : b (rs.map some ++ List.replicate (N - n) none) (o :: R) = some (.rt (.d x), o' :: R)) : fnM n N b rs (o :: R) = some (.d x, o' :: R) := by
  simp [fnM, hn, h, fnOut]
theorem e_cells (p : Pen) : (p.cells.map PyData.int).isEmpty = p.cells.isEmpty := by cases p.cells <;> rfl
theorem absI (i : Int) : absD (.int i) = some (.int i.natAbs) := by
  simp only [absD]
  congr 2
  omega
/-- what is drawn -/
theorem r_draw {n : Nat} {k : Int} (p : Pen) (R : Mem) (hp : okP n p) (hn : n ≤ 1000000000) (hk : 0 < k) (hk2 : k ≤ 2 ^ 62) : ∃ i p', 0 ≤ i ∧ i < k ∧ okP (n + 1) p' ∧ m__law_draw [.l 0, .d (.int k)] (penO p :: R) = some (.d (.int i), penO p' :: R) := by
  have t0 := hp.t0
  have t1 := hp.t1
  by_cases hl : 0 < p.left
  · refine ⟨p.left % k, { p with left := p.left / k }, Int.emod_nonneg _ (by omega), Int.emod_lt_of_pos _ hk, ⟨hp.cells, t0, by show p.turn ≤ _; omega⟩, ?_⟩
    refine fn_rt rfl ?_
    refine seq_rt ?_
    refine (if_t (m1 := penO p :: R) ?_).trans ?_
    · simp [sizeLine_eq, fnM, fnOut, sSeq, sIf, sSet, sRet, sRetN, sNil, sEx, sAsg, sPar, sAug, eVar, eC, eBin, eBinF, eCB, c1, c2, c1F, aCons, aNil, eAnd, eOr, eNot, bNot, bTru, bAnd, bOr, bOf, eIf, eCall, eChain, eIs, eIs2, eNeg, eIsN, isnE, eLst, eTup, asD, eTupT, eIxT, eLstL, eApp, sPut, sSetIx, eSl, eSlF, oNo, oYes, eRev, gNm, gTp, setAll, vw, vwF, vwFs, truD, addD, subD, powD, ixD, lenD, cmpI, ltD, leD, gtD, geD, isT_int, isT_bool, isT_str, isT_list, isT_tuple, ty_int, ty_bool, ty_str, ty_list, ty_tuple, isT2, get_left, hl]
    refine (seq_nx (set_k (v := .d (.int (p.left % k))) (m1 := penO p :: R) ?_)).trans ?_
    · simp [sizeLine_eq, fnM, fnOut, sSeq, sIf, sSet, sRet, sRetN, sNil, sEx, sAsg, sPar, sAug, eVar, eC, eBin, eBinF, eCB, c1, c2, c1F, aCons, aNil, eAnd, eOr, eNot, bNot, bTru, bAnd, bOr, bOf, eIf, eCall, eChain, eIs, eIs2, eNeg, eIsN, isnE, eLst, eTup, asD, eTupT, eIxT, eLstL, eApp, sPut, sSetIx, eSl, eSlF, oNo, oYes, eRev, gNm, gTp, setAll, vw, vwF, vwFs, truD, addD, subD, powD, ixD, lenD, cmpI, ltD, leD, gtD, geD, isT_int, isT_bool, isT_str, isT_list, isT_tuple, ty_int, ty_bool, ty_str, ty_list, ty_tuple, isT2, get_left, modI hk]
    refine (seq_nx (put_left p _ R _ (p.left / k) rfl ?_)).trans ?_
    · simp [sizeLine_eq, fnM, fnOut, sSeq, sIf, sSet, sRet, sRetN, sNil, sEx, sAsg, sPar, sAug, eVar, eC, eBin, eBinF, eCB, c1, c2, c1F, aCons, aNil, eAnd, eOr, eNot, bNot, bTru, bAnd, bOr, bOf, eIf, eCall, eChain, eIs, eIs2, eNeg, eIsN, isnE, eLst, eTup, asD, eTupT, eIxT, eLstL, eApp, sPut, sSetIx, eSl, eSlF, oNo, oYes, eRev, gNm, gTp, setAll, vw, vwF, vwFs, truD, addD, subD, powD, ixD, lenD, cmpI, ltD, leD, gtD, geD, isT_int, isT_bool, isT_str, isT_list, isT_tuple, ty_int, ty_bool, ty_str, ty_list, ty_tuple, isT2, get_left, divI hk hk2]
    exact ret_k rfl
  · obtain ⟨cells, turn, left⟩ := p
    simp only at t0 t1 hl
    -- the cell
    have main : ∀ (e1 : Env') (c : Int), e1 = [some (.l 0), some (.d (.int k)), some (.d (.int turn)), some (.d (.int c)), none, none, none, none] → ∃ i p', 0 ≤ i ∧ i < k ∧ okP (n + 1) p' ∧
      (sSeq (sIf (bAnd (bOf (eBin ltD (eVar 2) (eCB (c1 lenD) (aCons (eGet (eVar 0) (eC (.str "cells"))) aNil)))) (bOf (eBin geD (eCB (c1 absD) (aCons (eVar 3) aNil)) (eBin powD (eC (.int 10)) (eC (.int 18)))))) (sSeq (sPut (eBin fdivD (eBin subD (eCB (c1 absD) (aCons (eVar 3) aNil)) (eBin powD (eC (.int 10)) (eC (.int 18)))) (eVar 1)) (eVar 0) (eC (.str "left")))
    (sRet (eBin modD (eBin subD (eCB (c1 absD) (aCons (eVar 3) aNil)) (eBin powD (eC (.int 10)) (eC (.int 18)))) (eVar 1)))) sNil)
    (sSeq (sSet 4 (eLst (aCons (eC (.int 2147483647)) (aCons (eC (.int 2147483629)) (aCons (eC (.int 2147483587)) (aCons (eC (.int 2147483579)) (aCons (eC (.int 2147483563)) aNil)))))))
    (sSeq (sSet 5 (eBin ixD (eVar 4) (eBin modD (eVar 2) (eC (.int 5)))))
    (sSeq (sSet 6 (eBin modD (eBin addD (eBin addD (eBin mulD' (eBin modD (eVar 3) (eVar 5)) (eC (.int 48271))) (eBin mulD' (eBin mulD' (eC (.int 39373)) (eVar 2)) (eVar 2))) (eC (.int 29))) (eVar 5)))
    (sSeq (sSet 6 (eBin modD (eBin mulD' (eVar 6) (eBin addD (eVar 6) (eC (.int 69621)))) (eBin ixD (eVar 4) (eBin modD (eBin addD (eVar 2) (eC (.int 2))) (eC (.int 5))))))
    (sRet (eBin modD (eBin fdivD (eBin modD (eBin mulD' (eVar 6) (eVar 6)) (eC (.int 2147483549))) (eC (.int 64))) (eVar 1)))))))) e1 (penO ⟨cells, turn + 1, left⟩ :: R) = some (.rt (.d (.int i)), penO p' :: R) := by
      rintro e1 c rfl
      have hok : okP (n + 1) ⟨cells, turn + 1, left⟩ := ⟨hp.cells, by show 0 ≤ turn + 1; omega, by show turn + 1 ≤ _; omega⟩
      by_cases hg : turn < cells.length ∧ 1000000000000000000 ≤ (c.natAbs : Int)
      · obtain ⟨h1, h2⟩ := hg
        refine ⟨((c.natAbs : Int) - 1000000000000000000) % k, ⟨cells, turn + 1, ((c.natAbs : Int) - 1000000000000000000) / k⟩, Int.emod_nonneg _ (by omega), Int.emod_lt_of_pos _ hk, ⟨hp.cells, by show 0 ≤ turn + 1; omega, by show turn + 1 ≤ _; omega⟩, ?_⟩
        refine seq_rt ?_
        refine (if_t (m1 := penO ⟨cells, turn + 1, left⟩ :: R) ?_).trans ?_
        · simp [sizeLine_eq, fnM, fnOut, sSeq, sIf, sSet, sRet, sRetN, sNil, sEx, sAsg, sPar, sAug, eVar, eC, eBin, eBinF, eCB, c1, c2, c1F, aCons, aNil, eAnd, eOr, eNot, bNot, bTru, bAnd, bOr, bOf, eIf, eCall, eChain, eIs, eIs2, eNeg, eIsN, isnE, eLst, eTup, asD, eTupT, eIxT, eLstL, eApp, sPut, sSetIx, eSl, eSlF, oNo, oYes, eRev, gNm, gTp, setAll, vw, vwF, vwFs, truD, addD, subD, powD, ixD, lenD, cmpI, ltD, leD, gtD, geD, isT_int, isT_bool, isT_str, isT_list, isT_tuple, ty_int, ty_bool, ty_str, ty_list, ty_tuple, isT2, get_cells, absI, h1, h2]
        refine (seq_nx (put_left _ _ R _ (((c.natAbs : Int) - 1000000000000000000) / k) rfl ?_)).trans ?_
        · simp [sizeLine_eq, fnM, fnOut, sSeq, sIf, sSet, sRet, sRetN, sNil, sEx, sAsg, sPar, sAug, eVar, eC, eBin, eBinF, eCB, c1, c2, c1F, aCons, aNil, eAnd, eOr, eNot, bNot, bTru, bAnd, bOr, bOf, eIf, eCall, eChain, eIs, eIs2, eNeg, eIsN, isnE, eLst, eTup, asD, eTupT, eIxT, eLstL, eApp, sPut, sSetIx, eSl, eSlF, oNo, oYes, eRev, gNm, gTp, setAll, vw, vwF, vwFs, truD, addD, subD, powD, ixD, lenD, cmpI, ltD, leD, gtD, geD, isT_int, isT_bool, isT_str, isT_list, isT_tuple, ty_int, ty_bool, ty_str, ty_list, ty_tuple, isT2, absI, divI hk hk2]
        refine ret_k ?_
        simp [sizeLine_eq, fnM, fnOut, sSeq, sIf, sSet, sRet, sRetN, sNil, sEx, sAsg, sPar, sAug, eVar, eC, eBin, eBinF, eCB, c1, c2, c1F, aCons, aNil, eAnd, eOr, eNot, bNot, bTru, bAnd, bOr, bOf, eIf, eCall, eChain, eIs, eIs2, eNeg, eIsN, isnE, eLst, eTup, asD, eTupT, eIxT, eLstL, eApp, sPut, sSetIx, eSl, eSlF, oNo, oYes, eRev, gNm, gTp, setAll, vw, vwF, vwFs, truD, addD, subD, powD, ixD, lenD, cmpI, ltD, leD, gtD, geD, isT_int, isT_bool, isT_str, isT_list, isT_tuple, ty_int, ty_bool, ty_str, ty_list, ty_tuple, isT2, absI, modI hk]
      · obtain ⟨q, hq, q1, q2⟩ := prime_ok turn
        obtain ⟨r, hr, r1, r2⟩ := prime_ok (turn + 2)
        have cq0 : 0 ≤ c % q := Int.emod_nonneg _ (by omega)
        have cq1 : c % q < q := Int.emod_lt_of_pos _ (by omega)
        obtain ⟨d, hd⟩ : ∃ d, d = (c % q * 48271 + 39373 * turn * turn + 29) % q := ⟨_, rfl⟩
        have d0 : 0 ≤ d := by rw [hd]; exact Int.emod_nonneg _ (by omega)
        have d1 : d < q := by rw [hd]; exact Int.emod_lt_of_pos _ (by omega)
        obtain ⟨g, hg2⟩ : ∃ g, g = (d * (d + 69621)) % r := ⟨_, rfl⟩
        have g0 : 0 ≤ g := by rw [hg2]; exact Int.emod_nonneg _ (by omega)
        have g1 : g < r := by rw [hg2]; exact Int.emod_lt_of_pos _ (by omega)
        have B : (2 : Nat) ^ 100 = 1267650600228229401496703205376 := rfl
        have m1 : mulD' (.int (c % q)) (.int 48271) = some (.int (c % q * 48271)) := mulI (by omega) (by omega)
        have m2 : mulD' (.int 39373) (.int turn) = some (.int (39373 * turn)) := mulI (by omega) (by omega)
        have m3 : mulD' (.int (39373 * turn)) (.int turn) = some (.int (39373 * turn * turn)) := mulI (by omega) (by omega)
        have m4 : mulD' (.int d) (.int (d + 69621)) = some (.int (d * (d + 69621))) := mulI (by omega) (by omega)
        have m5 : mulD' (.int g) (.int g) = some (.int (g * g)) := mulI (by omega) (by omega)
        refine ⟨(g * g) % 2147483549 / 64 % k, ⟨cells, turn + 1, left⟩, Int.emod_nonneg _ (by omega), Int.emod_lt_of_pos _ hk, hok, ?_⟩
        refine (seq_nx (e1 := [some (.l 0), some (.d (.int k)), some (.d (.int turn)), some (.d (.int c)), none, none, none, none]) (m1 := penO ⟨cells, turn + 1, left⟩ :: R) ?_).trans ?_
        · refine (if_f (m1 := penO ⟨cells, turn + 1, left⟩ :: R) ?_).trans rfl
          by_cases h1 : turn < cells.length
          · have h2 : ¬ 1000000000000000000 ≤ (c.natAbs : Int) := fun z => hg ⟨h1, z⟩
            simp [sizeLine_eq, fnM, fnOut, sSeq, sIf, sSet, sRet, sRetN, sNil, sEx, sAsg, sPar, sAug, eVar, eC, eBin, eBinF, eCB, c1, c2, c1F, aCons, aNil, eAnd, eOr, eNot, bNot, bTru, bAnd, bOr, bOf, eIf, eCall, eChain, eIs, eIs2, eNeg, eIsN, isnE, eLst, eTup, asD, eTupT, eIxT, eLstL, eApp, sPut, sSetIx, eSl, eSlF, oNo, oYes, eRev, gNm, gTp, setAll, vw, vwF, vwFs, truD, addD, subD, powD, ixD, lenD, cmpI, ltD, leD, gtD, geD, isT_int, isT_bool, isT_str, isT_list, isT_tuple, ty_int, ty_bool, ty_str, ty_list, ty_tuple, isT2, get_cells, absI, h1, h2]
          · simp [sizeLine_eq, fnM, fnOut, sSeq, sIf, sSet, sRet, sRetN, sNil, sEx, sAsg, sPar, sAug, eVar, eC, eBin, eBinF, eCB, c1, c2, c1F, aCons, aNil, eAnd, eOr, eNot, bNot, bTru, bAnd, bOr, bOf, eIf, eCall, eChain, eIs, eIs2, eNeg, eIsN, isnE, eLst, eTup, asD, eTupT, eIxT, eLstL, eApp, sPut, sSetIx, eSl, eSlF, oNo, oYes, eRev, gNm, gTp, setAll, vw, vwF, vwFs, truD, addD, subD, powD, ixD, lenD, cmpI, ltD, leD, gtD, geD, isT_int, isT_bool, isT_str, isT_list, isT_tuple, ty_int, ty_bool, ty_str, ty_list, ty_tuple, isT2, get_cells, absI, h1]
        refine (seq_nx (set_k (v := .d (.list primes)) (m1 := penO ⟨cells, turn + 1, left⟩ :: R) rfl)).trans ?_
        refine (seq_nx (set_k (v := .d (.int q)) (m1 := penO ⟨cells, turn + 1, left⟩ :: R) ?_)).trans ?_
        · simp [sizeLine_eq, fnM, fnOut, sSeq, sIf, sSet, sRet, sRetN, sNil, sEx, sAsg, sPar, sAug, eVar, eC, eBin, eBinF, eCB, c1, c2, c1F, aCons, aNil, eAnd, eOr, eNot, bNot, bTru, bAnd, bOr, bOf, eIf, eCall, eChain, eIs, eIs2, eNeg, eIsN, isnE, eLst, eTup, asD, eTupT, eIxT, eLstL, eApp, sPut, sSetIx, eSl, eSlF, oNo, oYes, eRev, gNm, gTp, setAll, vw, vwF, vwFs, truD, addD, subD, powD, ixD, lenD, cmpI, ltD, leD, gtD, geD, isT_int, isT_bool, isT_str, isT_list, isT_tuple, ty_int, ty_bool, ty_str, ty_list, ty_tuple, isT2, modI, hq]
        refine (seq_nx (set_k (v := .d (.int d)) (m1 := penO ⟨cells, turn + 1, left⟩ :: R) ?_)).trans ?_
        · simp [sizeLine_eq, fnM, fnOut, sSeq, sIf, sSet, sRet, sRetN, sNil, sEx, sAsg, sPar, sAug, eVar, eC, eBin, eBinF, eCB, c1, c2, c1F, aCons, aNil, eAnd, eOr, eNot, bNot, bTru, bAnd, bOr, bOf, eIf, eCall, eChain, eIs, eIs2, eNeg, eIsN, isnE, eLst, eTup, asD, eTupT, eIxT, eLstL, eApp, sPut, sSetIx, eSl, eSlF, oNo, oYes, eRev, gNm, gTp, setAll, vw, vwF, vwFs, truD, addD, subD, powD, ixD, lenD, cmpI, ltD, leD, gtD, geD, isT_int, isT_bool, isT_str, isT_list, isT_tuple, ty_int, ty_bool, ty_str, ty_list, ty_tuple, isT2, modI (show 0 < q by omega), m1, m2, m3, ← hd]
        refine (seq_nx (set_k (v := .d (.int g)) (m1 := penO ⟨cells, turn + 1, left⟩ :: R) ?_)).trans ?_
        · simp [sizeLine_eq, fnM, fnOut, sSeq, sIf, sSet, sRet, sRetN, sNil, sEx, sAsg, sPar, sAug, eVar, eC, eBin, eBinF, eCB, c1, c2, c1F, aCons, aNil, eAnd, eOr, eNot, bNot, bTru, bAnd, bOr, bOf, eIf, eCall, eChain, eIs, eIs2, eNeg, eIsN, isnE, eLst, eTup, asD, eTupT, eIxT, eLstL, eApp, sPut, sSetIx, eSl, eSlF, oNo, oYes, eRev, gNm, gTp, setAll, vw, vwF, vwFs, truD, addD, subD, powD, ixD, lenD, cmpI, ltD, leD, gtD, geD, isT_int, isT_bool, isT_str, isT_list, isT_tuple, ty_int, ty_bool, ty_str, ty_list, ty_tuple, isT2, modI, hr, modI (show 0 < r by omega), m4, ← hg2]
        refine ret_k ?_
        simp [sizeLine_eq, fnM, fnOut, sSeq, sIf, sSet, sRet, sRetN, sNil, sEx, sAsg, sPar, sAug, eVar, eC, eBin, eBinF, eCB, c1, c2, c1F, aCons, aNil, eAnd, eOr, eNot, bNot, bTru, bAnd, bOr, bOf, eIf, eCall, eChain, eIs, eIs2, eNeg, eIsN, isnE, eLst, eTup, asD, eTupT, eIxT, eLstL, eApp, sPut, sSetIx, eSl, eSlF, oNo, oYes, eRev, gNm, gTp, setAll, vw, vwF, vwFs, truD, addD, subD, powD, ixD, lenD, cmpI, ltD, leD, gtD, geD, isT_int, isT_bool, isT_str, isT_list, isT_tuple, ty_int, ty_bool, ty_str, ty_list, ty_tuple, isT2, modI, m5, modI hk, divI]
    have head : ∀ (c : Int) (st : MS) (o : Option (Out × Mem)), st [some (.l 0), some (.d (.int k)), some (.d (.int turn)), some (.d (.int c)), none, none, none, none] (penO ⟨cells, turn + 1, left⟩ :: R) = o → o = o := fun _ _ _ _ => rfl
    by_cases hc : cells = []
    · subst hc
      obtain ⟨i, p', i0, i1, hp', hm⟩ := main _ (31 * turn + 11) rfl
      refine ⟨i, p', i0, i1, hp', fn_rt rfl ?_⟩
      refine (seq_nx (e1 := [some (.l 0), some (.d (.int k)), none, none, none, none, none, none]) (m1 := penO ⟨[], turn, left⟩ :: R) ?_).trans ?_
      · refine (if_f (m1 := penO ⟨[], turn, left⟩ :: R) ?_).trans rfl
        simp [sizeLine_eq, fnM, fnOut, sSeq, sIf, sSet, sRet, sRetN, sNil, sEx, sAsg, sPar, sAug, eVar, eC, eBin, eBinF, eCB, c1, c2, c1F, aCons, aNil, eAnd, eOr, eNot, bNot, bTru, bAnd, bOr, bOf, eIf, eCall, eChain, eIs, eIs2, eNeg, eIsN, isnE, eLst, eTup, asD, eTupT, eIxT, eLstL, eApp, sPut, sSetIx, eSl, eSlF, oNo, oYes, eRev, gNm, gTp, setAll, vw, vwF, vwFs, truD, addD, subD, powD, ixD, lenD, cmpI, ltD, leD, gtD, geD, isT_int, isT_bool, isT_str, isT_list, isT_tuple, ty_int, ty_bool, ty_str, ty_list, ty_tuple, isT2, get_left, hl]
      refine (seq_nx (set_k (v := .d (.int turn)) (m1 := penO ⟨[], turn, left⟩ :: R) ?_)).trans ?_
      · simp [sizeLine_eq, fnM, fnOut, sSeq, sIf, sSet, sRet, sRetN, sNil, sEx, sAsg, sPar, sAug, eVar, eC, eBin, eBinF, eCB, c1, c2, c1F, aCons, aNil, eAnd, eOr, eNot, bNot, bTru, bAnd, bOr, bOf, eIf, eCall, eChain, eIs, eIs2, eNeg, eIsN, isnE, eLst, eTup, asD, eTupT, eIxT, eLstL, eApp, sPut, sSetIx, eSl, eSlF, oNo, oYes, eRev, gNm, gTp, setAll, vw, vwF, vwFs, truD, addD, subD, powD, ixD, lenD, cmpI, ltD, leD, gtD, geD, isT_int, isT_bool, isT_str, isT_list, isT_tuple, ty_int, ty_bool, ty_str, ty_list, ty_tuple, isT2, get_turn]
      refine (seq_nx (put_turn _ _ R _ (turn + 1) rfl ?_)).trans ?_
      · simp [sizeLine_eq, fnM, fnOut, sSeq, sIf, sSet, sRet, sRetN, sNil, sEx, sAsg, sPar, sAug, eVar, eC, eBin, eBinF, eCB, c1, c2, c1F, aCons, aNil, eAnd, eOr, eNot, bNot, bTru, bAnd, bOr, bOf, eIf, eCall, eChain, eIs, eIs2, eNeg, eIsN, isnE, eLst, eTup, asD, eTupT, eIxT, eLstL, eApp, sPut, sSetIx, eSl, eSlF, oNo, oYes, eRev, gNm, gTp, setAll, vw, vwF, vwFs, truD, addD, subD, powD, ixD, lenD, cmpI, ltD, leD, gtD, geD, isT_int, isT_bool, isT_str, isT_list, isT_tuple, ty_int, ty_bool, ty_str, ty_list, ty_tuple, isT2]
      refine (seq_nx (set_k (v := .d (.int (31 * turn + 11))) (m1 := penO ⟨[], turn + 1, left⟩ :: R) ?_)).trans ?_
      · simp [sizeLine_eq, fnM, fnOut, sSeq, sIf, sSet, sRet, sRetN, sNil, sEx, sAsg, sPar, sAug, eVar, eC, eBin, eBinF, eCB, c1, c2, c1F, aCons, aNil, eAnd, eOr, eNot, bNot, bTru, bAnd, bOr, bOf, eIf, eCall, eChain, eIs, eIs2, eNeg, eIsN, isnE, eLst, eTup, asD, eTupT, eIxT, eLstL, eApp, sPut, sSetIx, eSl, eSlF, oNo, oYes, eRev, gNm, gTp, setAll, vw, vwF, vwFs, truD, addD, subD, powD, ixD, lenD, cmpI, ltD, leD, gtD, geD, isT_int, isT_bool, isT_str, isT_list, isT_tuple, ty_int, ty_bool, ty_str, ty_list, ty_tuple, isT2, mulI (i := 31) (j := turn) (by decide) (by have B : (2 : Nat) ^ 100 = 1267650600228229401496703205376 := rfl; omega)]
      refine (seq_nx (e1 := [some (.l 0), some (.d (.int k)), some (.d (.int turn)), some (.d (.int (31 * turn + 11))), none, none, none, none]) (m1 := penO ⟨[], turn + 1, left⟩ :: R) ?_).trans hm
      refine (if_f (m1 := penO ⟨[], turn + 1, left⟩ :: R) ?_).trans rfl
      simp [sizeLine_eq, fnM, fnOut, sSeq, sIf, sSet, sRet, sRetN, sNil, sEx, sAsg, sPar, sAug, eVar, eC, eBin, eBinF, eCB, c1, c2, c1F, aCons, aNil, eAnd, eOr, eNot, bNot, bTru, bAnd, bOr, bOf, eIf, eCall, eChain, eIs, eIs2, eNeg, eIsN, isnE, eLst, eTup, asD, eTupT, eIxT, eLstL, eApp, sPut, sSetIx, eSl, eSlF, oNo, oYes, eRev, gNm, gTp, setAll, vw, vwF, vwFs, truD, addD, subD, powD, ixD, lenD, cmpI, ltD, leD, gtD, geD, isT_int, isT_bool, isT_str, isT_list, isT_tuple, ty_int, ty_bool, ty_str, ty_list, ty_tuple, isT2, get_cells, ne_nil_list]
    · have hlen : 0 < cells.length := List.length_pos_iff.mpr hc
      obtain ⟨a, ha, hat⟩ := atI_ok (cells.map PyData.int) (turn % (cells.length : Int)) (Int.emod_nonneg _ (by omega)) (by rw [List.length_map]; exact Int.emod_lt_of_pos _ (by omega))
      obtain ⟨c, _, rfl⟩ := List.mem_map.mp ha
      obtain ⟨i, p', i0, i1, hp', hm⟩ := main _ c rfl
      refine ⟨i, p', i0, i1, hp', fn_rt rfl ?_⟩
      refine (seq_nx (e1 := [some (.l 0), some (.d (.int k)), none, none, none, none, none, none]) (m1 := penO ⟨cells, turn, left⟩ :: R) ?_).trans ?_
      · refine (if_f (m1 := penO ⟨cells, turn, left⟩ :: R) ?_).trans rfl
        simp [sizeLine_eq, fnM, fnOut, sSeq, sIf, sSet, sRet, sRetN, sNil, sEx, sAsg, sPar, sAug, eVar, eC, eBin, eBinF, eCB, c1, c2, c1F, aCons, aNil, eAnd, eOr, eNot, bNot, bTru, bAnd, bOr, bOf, eIf, eCall, eChain, eIs, eIs2, eNeg, eIsN, isnE, eLst, eTup, asD, eTupT, eIxT, eLstL, eApp, sPut, sSetIx, eSl, eSlF, oNo, oYes, eRev, gNm, gTp, setAll, vw, vwF, vwFs, truD, addD, subD, powD, ixD, lenD, cmpI, ltD, leD, gtD, geD, isT_int, isT_bool, isT_str, isT_list, isT_tuple, ty_int, ty_bool, ty_str, ty_list, ty_tuple, isT2, get_left, hl]
      refine (seq_nx (set_k (v := .d (.int turn)) (m1 := penO ⟨cells, turn, left⟩ :: R) ?_)).trans ?_
      · simp [sizeLine_eq, fnM, fnOut, sSeq, sIf, sSet, sRet, sRetN, sNil, sEx, sAsg, sPar, sAug, eVar, eC, eBin, eBinF, eCB, c1, c2, c1F, aCons, aNil, eAnd, eOr, eNot, bNot, bTru, bAnd, bOr, bOf, eIf, eCall, eChain, eIs, eIs2, eNeg, eIsN, isnE, eLst, eTup, asD, eTupT, eIxT, eLstL, eApp, sPut, sSetIx, eSl, eSlF, oNo, oYes, eRev, gNm, gTp, setAll, vw, vwF, vwFs, truD, addD, subD, powD, ixD, lenD, cmpI, ltD, leD, gtD, geD, isT_int, isT_bool, isT_str, isT_list, isT_tuple, ty_int, ty_bool, ty_str, ty_list, ty_tuple, isT2, get_turn]
      refine (seq_nx (put_turn _ _ R _ (turn + 1) rfl ?_)).trans ?_
      · simp [sizeLine_eq, fnM, fnOut, sSeq, sIf, sSet, sRet, sRetN, sNil, sEx, sAsg, sPar, sAug, eVar, eC, eBin, eBinF, eCB, c1, c2, c1F, aCons, aNil, eAnd, eOr, eNot, bNot, bTru, bAnd, bOr, bOf, eIf, eCall, eChain, eIs, eIs2, eNeg, eIsN, isnE, eLst, eTup, asD, eTupT, eIxT, eLstL, eApp, sPut, sSetIx, eSl, eSlF, oNo, oYes, eRev, gNm, gTp, setAll, vw, vwF, vwFs, truD, addD, subD, powD, ixD, lenD, cmpI, ltD, leD, gtD, geD, isT_int, isT_bool, isT_str, isT_list, isT_tuple, ty_int, ty_bool, ty_str, ty_list, ty_tuple, isT2]
      refine (seq_nx (set_k (v := .d (.int (31 * turn + 11))) (m1 := penO ⟨cells, turn + 1, left⟩ :: R) ?_)).trans ?_
      · simp [sizeLine_eq, fnM, fnOut, sSeq, sIf, sSet, sRet, sRetN, sNil, sEx, sAsg, sPar, sAug, eVar, eC, eBin, eBinF, eCB, c1, c2, c1F, aCons, aNil, eAnd, eOr, eNot, bNot, bTru, bAnd, bOr, bOf, eIf, eCall, eChain, eIs, eIs2, eNeg, eIsN, isnE, eLst, eTup, asD, eTupT, eIxT, eLstL, eApp, sPut, sSetIx, eSl, eSlF, oNo, oYes, eRev, gNm, gTp, setAll, vw, vwF, vwFs, truD, addD, subD, powD, ixD, lenD, cmpI, ltD, leD, gtD, geD, isT_int, isT_bool, isT_str, isT_list, isT_tuple, ty_int, ty_bool, ty_str, ty_list, ty_tuple, isT2, mulI (i := 31) (j := turn) (by decide) (by have B : (2 : Nat) ^ 100 = 1267650600228229401496703205376 := rfl; omega)]
      refine (seq_nx (e1 := [some (.l 0), some (.d (.int k)), some (.d (.int turn)), some (.d (.int c)), none, none, none, none]) (m1 := penO ⟨cells, turn + 1, left⟩ :: R) ?_).trans hm
      refine (if_t (m1 := penO ⟨cells, turn + 1, left⟩ :: R) ?_).trans ?_
      · simp [sizeLine_eq, fnM, fnOut, sSeq, sIf, sSet, sRet, sRetN, sNil, sEx, sAsg, sPar, sAug, eVar, eC, eBin, eBinF, eCB, c1, c2, c1F, aCons, aNil, eAnd, eOr, eNot, bNot, bTru, bAnd, bOr, bOf, eIf, eCall, eChain, eIs, eIs2, eNeg, eIsN, isnE, eLst, eTup, asD, eTupT, eIxT, eLstL, eApp, sPut, sSetIx, eSl, eSlF, oNo, oYes, eRev, gNm, gTp, setAll, vw, vwF, vwFs, truD, addD, subD, powD, ixD, lenD, cmpI, ltD, leD, gtD, geD, isT_int, isT_bool, isT_str, isT_list, isT_tuple, ty_int, ty_bool, ty_str, ty_list, ty_tuple, isT2, get_cells, ne_nil_list, hc]
      refine (set_k (v := .d (.int c)) (m1 := penO ⟨cells, turn + 1, left⟩ :: R) ?_).trans rfl
      simp [sizeLine_eq, fnM, fnOut, sSeq, sIf, sSet, sRet, sRetN, sNil, sEx, sAsg, sPar, sAug, eVar, eC, eBin, eBinF, eCB, c1, c2, c1F, aCons, aNil, eAnd, eOr, eNot, bNot, bTru, bAnd, bOr, bOf, eIf, eCall, eChain, eIs, eIs2, eNeg, eIsN, isnE, eLst, eTup, asD, eTupT, eIxT, eLstL, eApp, sPut, sSetIx, eSl, eSlF, oNo, oYes, eRev, gNm, gTp, setAll, vw, vwF, vwFs, truD, addD, subD, powD, ixD, lenD, cmpI, ltD, leD, gtD, geD, isT_int, isT_bool, isT_str, isT_list, isT_tuple, ty_int, ty_bool, ty_str, ty_list, ty_tuple, isT2, get_cells, modI (show (0:Int) < (cells.length : Int) by omega), hat]
end Lw
set_option Elab.async false
set_option linter.all false
set_option maxRecDepth 10000
set_option maxHeartbeats 4000000
namespace Lw
open PySem PySem.Spec PyProof.Rows DL L2

theorem r_pick {n : Nat} {xs : List PyData} (p : Pen) (R : Mem) (hp : okP n p) (hn : n ≤ 1000000000) (h0 : xs ≠ []) (hl : xs.length ≤ 1000000) : ∃ x p', x ∈ xs ∧ okP (n + 1) p' ∧ m__law_pick [.l 0, .d (.list xs)] (penO p :: R) = some (.d x, penO p' :: R) := by
  have h1 : 0 < xs.length := List.length_pos_iff.mpr h0
  obtain ⟨i, p', i0, i1, hp', hd⟩ := r_draw (k := xs.length) p R hp hn (by omega) (by have : (2:Int)^62 = 4611686018427387904 := rfl; omega)
  obtain ⟨x, hx, ha⟩ := atI_ok xs i i0 i1
  refine ⟨x, p', hx, hp', fn_rt rfl (ret_k ?_)⟩
  simp [sizeLine_eq, fnM, fnOut, sSeq, sIf, sSet, sRet, sRetN, sNil, sEx, sAsg, sPar, sAug, eVar, eC, eBin, eBinF, eCB, c1, c2, c1F, aCons, aNil, eAnd, eOr, eNot, bNot, bTru, bAnd, bOr, bOf, eIf, eCall, eChain, eIs, eIs2, eNeg, eIsN, isnE, eLst, eTup, asD, eTupT, eIxT, eLstL, eApp, eGet, sPut, sSetIx, eSl, eSlF, oNo, oYes, eRev, gNm, gTp, setAll, vw, vwF, vwFs, truD, addD, subD, mulD', mulD, powD, ixD, lenD, cmpI, ltD, leD, gtD, geD, isT_int, isT_bool, isT_str, isT_list, isT_tuple, ty_int, ty_bool, ty_str, ty_list, ty_tuple, isT2, hd, ha]
theorem r_pickS {n : Nat} {s : Str} (p : Pen) (R : Mem) (hp : okP n p) (hn : n ≤ 1000000000) (h0 : s.cps.toList ≠ []) (hl : s.length ≤ 1000000) : ∃ c p', c ∈ s.cps.toList ∧ okP (n + 1) p' ∧ m__law_pick [.l 0, .d (.str s)] (penO p :: R) = some (.d (.str ⟨#[c]⟩), penO p' :: R) := by
  have h1 : 0 < s.cps.toList.length := List.length_pos_iff.mpr h0
  have h2 := str_len s
  obtain ⟨i, p', i0, i1, hp', hd⟩ := r_draw (k := s.length) p R hp hn (by omega) (by have : (2:Int)^62 = 4611686018427387904 := rfl; omega)
  obtain ⟨x, hx, ha⟩ := atI_ok s.cps.toList i i0 (by omega)
  have h3 : s.length ≤ 16777216 := by omega
  refine ⟨x, p', hx, hp', fn_rt rfl (ret_k ?_)⟩
  simp [sizeLine_eq, fnM, fnOut, sSeq, sIf, sSet, sRet, sRetN, sNil, sEx, sAsg, sPar, sAug, eVar, eC, eBin, eBinF, eCB, c1, c2, c1F, aCons, aNil, eAnd, eOr, eNot, bNot, bTru, bAnd, bOr, bOf, eIf, eCall, eChain, eIs, eIs2, eNeg, eIsN, isnE, eLst, eTup, asD, eTupT, eIxT, eLstL, eApp, eGet, sPut, sSetIx, eSl, eSlF, oNo, oYes, eRev, gNm, gTp, setAll, vw, vwF, vwFs, truD, addD, subD, mulD', mulD, powD, ixD, lenD, cmpI, ltD, leD, gtD, geD, isT_int, isT_bool, isT_str, isT_list, isT_tuple, ty_int, ty_bool, ty_str, ty_list, ty_tuple, isT2, hd, ha, h3]
theorem rgL_len : ∀ (j : Nat) (i : Int), (rgL i j).length = j := by
  intro j i
  simp [rgL]
theorem for_of {it : MIt} {g : MG} {b : MS} {e : Env'} {m m1 : Mem} {xs : List EV} {C : Mem → Prop} {o : Option (Out × Mem)} (hi : it e m = some (xs, C, m1)) (h : forL g b C xs e m1 = o) : sFor it g b e m = o := by
  unfold sFor; rw [hi]; exact h
theorem rg1_of {f : ME} {e : Env'} {m m1 : Mem} {j : Int} (h : f e m = some (.d (.int j), m1)) (h0 : 0 ≤ j) (hj : j ≤ 1000000) : iRg1 f e m = some (rgL 0 j.toNat, noC, m1) := by
  have hr : -(2 ^ 62) ≤ j ∧ j < 2 ^ 62 := by
    have : (2:Int)^62 = 4611686018427387904 := rfl
    omega
  unfold iRg1; rw [h]; dsimp only; rw [if_pos hr]
theorem r_great {n f : Nat} (p : Pen) (R : Mem) (hp : okP n p) (hn : n ≤ 900000000) (hf : f ≤ 40) : ∃ (i : Int) (p' : Pen), 0 ≤ i ∧ i < 10 ^ f ∧ okP (n + f) p' ∧ m__law_great [.l 0, .d (.int f)] (penO p :: R) = some (.d (.int i), penO p' :: R) := by
  have B : (10 : Int) ^ 40 = 10000000000000000000000000000000000000000 := rfl
  have B2 : (2 : Nat) ^ 140 = 1393796574908163946345982392040522594123776 := rfl
  obtain ⟨e', m', h1, i, p', a3, rfl, rfl, hp', i0, i1, _⟩ := for_ind (g := gNm 3) (b := sSet 2 (eBin addD (eBin mulD' (eC (.int 10)) (eVar 2)) (eCall m__law_draw (aCons (eVar 0) (aCons (eC (.int 10)) aNil))))) (C := noC)
    (fun xs e m => ∃ (i : Int) (p' : Pen) (a3 : Option EV), e = [some (.l 0), some (.d (.int f)), some (.d (.int i)), a3] ∧ m = penO p' :: R ∧ okP (n + (f - xs.length)) p' ∧ 0 ≤ i ∧ i < 10 ^ (f - xs.length) ∧ xs.length ≤ f) (by
      rintro x xs e m ⟨i, p', a3, rfl, rfl, hp', i0, i1, hx⟩
      simp only [List.length_cons] at hp' i1 hx
      have hj : f - xs.length = (f - (xs.length + 1)) + 1 := by omega
      have hle : (10 : Int) ^ (f - (xs.length + 1)) ≤ 10 ^ 40 := by
        have := Nat.pow_le_pow_right (n := 10) (by decide) (show f - (xs.length + 1) ≤ 40 by omega)
        exact_mod_cast this
      obtain ⟨d, p2, d0, d1, hp2, hd⟩ := r_draw (k := 10) p' R hp' (by omega) (by decide) (by decide)
      have hm : mulD' (.int 10) (.int i) = some (.int (10 * i)) := by
        have := mul_ok (i := 10) (j := i) (a := 10) (b := 140) (by decide) (by omega) (by decide) (by decide) (by decide)
        simp only [mulD', mulD]
        rw [if_pos this]
      refine ⟨trivial, [some (.l 0), some (.d (.int f)), some (.d (.int i)), some x], rfl, [some (.l 0), some (.d (.int f)), some (.d (.int (10 * i + d))), some x], penO p2 :: R, ?_, 10 * i + d, p2, _, rfl, rfl, ?_, ?_, ?_, ?_⟩
      · refine set_k ?_
        simp [sizeLine_eq, fnM, fnOut, sSeq, sIf, sSet, sRet, sRetN, sNil, sEx, sAsg, sPar, sAug, eVar, eC, eBin, eBinF, eCB, c1, c2, c1F, aCons, aNil, eAnd, eOr, eNot, bNot, bTru, bAnd, bOr, bOf, eIf, eCall, eChain, eIs, eIs2, eNeg, eIsN, isnE, eLst, eTup, asD, eTupT, eIxT, eLstL, eApp, sPut, sSetIx, eSl, eSlF, oNo, oYes, eRev, gNm, gTp, setAll, vw, vwF, vwFs, truD, addD, subD, powD, ixD, lenD, cmpI, ltD, leD, gtD, geD, isT_int, isT_bool, isT_str, isT_list, isT_tuple, ty_int, ty_bool, ty_str, ty_list, ty_tuple, isT2, hm, hd]
      · rw [hj]; exact hp2
      · omega
      · rw [hj, Int.pow_succ]; omega
      · omega) (fun e m _ => trivial) (rgL 0 f) [some (.l 0), some (.d (.int f)), some (.d (.int 0)), none] (penO p :: R) ⟨0, p, none, rfl, rfl, by rw [rgL_len, Nat.sub_self]; exact hp, by decide, by rw [rgL_len, Nat.sub_self]; decide, by rw [rgL_len]; exact Nat.le_refl _⟩
  refine ⟨i, p', i0, i1, hp', fn_rt rfl ?_⟩
  refine (seq_nx (set_k (v := .d (.int 0)) (m1 := penO p :: R) rfl)).trans ?_
  refine (seq_nx (e1 := [some (.l 0), some (.d (.int f)), some (.d (.int i)), a3]) (m1 := penO p' :: R) ?_).trans (ret_k rfl)
  · exact for_of (rg1_of (j := f) rfl (by omega) (by omega)) (by rw [Int.toNat_natCast]; exact h1)
end Lw
set_option Elab.async false
set_option linter.all false
set_option maxRecDepth 10000
set_option maxHeartbeats 4000000
namespace Lw
open PySem PySem.Spec PyProof.Rows DL L2

/-- items that draw -/
theorem frz_pen {it : MIt} {f : ME} {i : Nat} {e : Env'} {p p1 : Pen} {R : Mem} {xs : List EV} (P : PyData → Prop) {n k : Nat} (h1 : it e (penO p :: R) = some (xs, noC, penO p1 :: R)) (hp : okP n p1) (hl : xs.length ≤ 1000000)
    (h : ∀ x ∈ xs, ∀ (q : Pen) (j : Nat) (S : Mem), okP j q → j ≤ n + k * xs.length → ∃ y q', P y ∧ okP (j + k) q' ∧ f ((wipeE e [i]).set i (some x)) (penO q :: S) = some (.d y, penO q' :: S)) :
    ∃ ys p', ys.length = xs.length ∧ (∀ y ∈ ys, P y) ∧ okP (n + k * xs.length) p' ∧ eFrz (eLc it (gNm i) cYes f [i]) e (penO p :: R) = some (.d (.list ys), penO p' :: R) := by
  have hz : sizeLine = 16777216 := sizeLine_eq
  have go : ∀ (us : List EV) (acc : List PyData) (q : Pen) (j : Nat), okP j q → j + k * us.length ≤ n + k * xs.length → acc.length + us.length ≤ 1000000 → (∀ x ∈ us, x ∈ xs) →
      ∃ ys p', ys.length = us.length ∧ (∀ y ∈ ys, P y) ∧ okP (j + k * us.length) p' ∧ lcL (gNm i) cYes f (R.length + 1) noC (wipeE e [i]) us (penO q :: (R ++ [.lst acc])) = some (penO p' :: (R ++ [.lst (acc ++ ys)])) := by
    intro us
    induction us with
    | nil => intro acc q j hq _ _ _; exact ⟨[], q, rfl, by simp, by simpa using hq, by simp [lcL, noC]⟩
    | cons u us ih =>
      intro acc q j hq hj ha hu
      simp only [List.length_cons, Nat.mul_succ] at hj ha
      obtain ⟨y, q', hy, hq', e1⟩ := h u (hu u List.mem_cons_self) q j (R ++ [.lst acc]) hq (by omega)
      obtain ⟨ys, p', l1, l2, l3, l4⟩ := ih (acc ++ [y]) q' (j + k) hq' (by omega) (by simp; omega) fun x hx => hu x (List.mem_cons_of_mem _ hx)
      refine ⟨y :: ys, p', by simp [l1], ?_, ?_, ?_⟩
      · intro z hz; rcases List.mem_cons.mp hz with rfl | hz
        · exact hy
        · exact l2 z hz
      · rw [List.length_cons, Nat.mul_succ]; exact l3.mono (by omega)
      · have e2 : acc.length < sizeLine := by omega
        have g1 : (penO q' :: (R ++ [MO.lst acc]))[R.length + 1]? = some (.lst acc) := by simp
        have g2 : (penO q' :: (R ++ [MO.lst acc])).set (R.length + 1) (.lst (acc ++ [y])) = penO q' :: (R ++ [.lst (acc ++ [y])]) := by simp
        simp only [lcL, gNm, cYes]
        rw [if_pos (show noC _ from trivial), e1]
        simp only [g1]
        rw [if_pos e2, g2, l4]
        simp
  obtain ⟨ys, p', l1, l2, l3, l4⟩ := go xs [] p1 n hp (Nat.le_refl _) (by simpa using hl) fun x hx => hx
  exact ⟨ys, p', l1, l2, l3, frz_lc (A := penO p1 :: R) (A' := penO p' :: R) h1 rfl rfl (by simpa using l4)⟩
theorem fn_rt' {n N : Nat} {b : MS} {rs : List EV} {o o' : MO} {R : Mem} {x : PyData} (hn : rs.length = n) (h : b (rs.map some ++ List.replicate (N - n) none) (o :: R) = some (.rt (.d x), o' :: R)) : fnM n N b rs (o :: R) = some (.d x, o' :: R) := fn_rt hn h
theorem if_e {c : MB} {a b : MS} {e : Env'} {m : Mem} {o : Option (Out × Mem)} {k : Bool} {m1 : Mem} (h : c e m = some (k, m1)) (ha : k = true → a e m1 = o) (hb : k = false → b e m1 = o) : sIf c a b e m = o := by
  cases k with
  | true => exact (if_t h).trans (ha rfl)
  | false => exact (if_f h).trans (hb rfl)

/-! ### anything -/
theorem gd_mono : ∀ {k l n m : Nat} {x : PyData}, gd n k x → n ≤ m → k ≤ l → gd m l x := by
  intro k
  induction k with
  | zero =>
    intro l n m x h hn hk
    have hp : 2 ^ n ≤ 2 ^ m := Nat.pow_le_pow_right (by decide) hn
    cases x with
    | none => cases l <;> trivial
    | bool b => cases l <;> trivial
    | int i => have := gd_int h; cases l <;> (show i.natAbs < 2 ^ m; omega)
    | str s => have := gd_str h; cases l <;> exact ⟨by omega, this.2⟩
    | list xs => exact h.elim
    | tuple xs => exact h.elim
    | dict kvs => exact h.elim
  | succ k ih =>
    intro l n m x h hn hk
    have hp : 2 ^ n ≤ 2 ^ m := Nat.pow_le_pow_right (by decide) hn
    obtain ⟨l, rfl⟩ : ∃ l', l = l' + 1 := ⟨l - 1, by omega⟩
    cases x with
    | none => trivial
    | bool b => trivial
    | int i => have := gd_int h; show i.natAbs < 2 ^ m; omega
    | str s => have := gd_str h; exact ⟨by omega, this.2⟩
    | list xs => exact ⟨Nat.le_trans h.1 hn, fun y hy => ih (h.2 y hy) hn (by omega)⟩
    | tuple xs => exact ⟨Nat.le_trans h.1 hn, fun y hy => ih (h.2 y hy) hn (by omega)⟩
    | dict kvs => trivial
theorem gd_i {n k : Nat} {i : Int} (h : i.natAbs < 2 ^ n) : gd n k (.int i) := by cases k <;> exact h
theorem gd_s {n k : Nat} {s : Str} (h : s.length ≤ n) (h2 : PyData.strOk s = true) : gd n k (.str s) := by cases k <;> exact ⟨h, h2⟩
def costA : Nat → Nat
  | 0 => 2
  | d + 1 => 2 + 3 * costA d
end Lw
set_option Elab.async false
set_option linter.all false
set_option maxRecDepth 10000
set_option maxHeartbeats 4000000
namespace Lw
open PySem PySem.Spec PyProof.Rows DL L2

theorem frz_dct1 {s : Str} {f : ME} {e : Env'} {m : Mem} {x : PyData} (h : f e (m ++ [.dct []]) = some (.d x, m ++ [.dct []])) : ∃ kvs, eFrz (eDct [(s, f)]) e m = some (.d (.dict kvs), m) := by
  refine ⟨kvD (putP [] (.inr s) x), ?_⟩
  simp [eFrz, eDct, mPairs, h, vw]
theorem gd_leaf0 {n : Nat} : ∀ {k : Nat}, gd n k .none ∧ (∀ b, gd n k (.bool b))
  | 0 => ⟨trivial, fun _ => trivial⟩
  | _ + 1 => ⟨trivial, fun _ => trivial⟩
def xs15 : List PyData := [.none, .bool true, .bool false, .int 0, .int 1, .int (-1), .int 2, .int 1000000000000000000, .int 1000000000000000001, .int (-1000000000000000001), .str "", .str "a", .str (repS (Str.ofString "z") 8), .str (repS (Str.ofString "z") 9), .str "A"]
theorem gd15 : ∀ y ∈ xs15, gd 64 1 y := by
  intro y hy
  simp only [xs15, List.mem_cons, List.not_mem_nil, or_false] at hy
  rcases hy with rfl | rfl | rfl | rfl | rfl | rfl | rfl | rfl | rfl | rfl | rfl | rfl | rfl | rfl | rfl
  all_goals first | trivial | exact gd_i (by decide) | exact gd_s (by decide +kernel) (by decide +kernel)
def xs9 (ys : List PyData) (kvs : List (PyData × PyData)) : List PyData := [.str "a b", .str "a1", .list [], .dict [], .tuple [], .tuple ys, .tuple ys, .list ys, .dict kvs]
theorem gd9 {d : Nat} {ys : List PyData} {kvs : List (PyData × PyData)} (h : ys.length ≤ 64) (hy : ∀ y ∈ ys, gd 64 d y) : ∀ y ∈ xs9 ys kvs, gd 64 (d + 1) y := by
  intro y hz
  simp only [xs9, List.mem_cons, List.not_mem_nil, or_false] at hz
  rcases hz with rfl | rfl | rfl | rfl | rfl | rfl | rfl | rfl | rfl
  · exact gd_s (by decide +kernel) (by decide +kernel)
  · exact gd_s (by decide +kernel) (by decide +kernel)
  · exact ⟨by simp, by simp⟩
  · trivial
  · exact ⟨by simp, by simp⟩
  · exact ⟨h, hy⟩
  · exact ⟨h, hy⟩
  · exact ⟨h, hy⟩
  · trivial
theorem r_anyTail {n d : Nat} {ys : List PyData} {N : Mem} (D : Int) (p : Pen) (R : Mem) (F0 : MF) (hp : okP n p) (hn : n ≤ 900000000) (hl : ys.length ≤ 64) (hy : ∀ y ∈ ys, gd 64 d y)
    (hN : eFrz (eLc (iRg1 (eIf (bOf (eBin gtD (eVar 1) (eC (.int 0)))) (eCall m__law_draw (aCons (eVar 0) (aCons (eC (.int 4)) aNil))) (eC (.int 0)))) (gNm 4) cYes (eCall F0 (aCons (eVar 0) (aCons (eBin subD (eVar 1) (eC (.int 1))) aNil))) [4]) [some (.l 0), some (.d (.int D)), none, none, none] N = some (.d (.list ys), penO p :: R)) :
    ∃ x p', gd 64 (d + 1) x ∧ okP (n + 1) p' ∧ b__law_anything F0 [some (.l 0), some (.d (.int D)), none, none, none] N = some (.rt (.d x), penO p' :: R) := by
  have hz : sizeLine = 16777216 := sizeLine_eq
  have hx9 : ∀ kvs : List (PyData × PyData), (xs9 ys kvs).length = 9 := fun _ => rfl
  obtain ⟨kvs, hk⟩ := frz_dct1 (s := Str.ofString "a") (f := eCB (c1 tupleD) (aCons (eVar 2) aNil)) (e := [some (.l 0), some (.d (.int D)), some (.d (.list ys)), some (.d (.list xs15)), none]) (m := penO p :: R) (x := .tuple ys) (by simp [sizeLine_eq, fnM, fnOut, sSeq, sIf, sSet, sRet, sRetN, sNil, sEx, sAsg, sPar, sAug, eVar, eC, eBin, eBinF, eCB, c1, c2, c1F, aCons, aNil, eAnd, eOr, eNot, bNot, bTru, bAnd, bOr, bOf, eIf, eCall, eChain, eIs, eIs2, eNeg, eIsN, isnE, eLst, eTup, asD, eTupT, eIxT, eLstL, eApp, eGet, sPut, sSetIx, eSl, eSlF, oNo, oYes, eRev, gNm, gTp, setAll, vw, vwF, vwFs, truD, addD, subD, mulD', mulD, powD, ixD, lenD, cmpI, ltD, leD, gtD, geD, isT_int, isT_bool, isT_str, isT_list, isT_tuple, ty_int, ty_bool, ty_str, ty_list, ty_tuple, isT2, tupleD])
  obtain ⟨i, p', i0, i1, hp', hd⟩ := r_draw (k := 24) p R hp (by omega) (by decide) (by decide)
  obtain ⟨x, hx, ha⟩ := atI_ok (xs15 ++ xs9 ys kvs) i i0 (by rw [List.length_append, hx9]; exact i1)
  refine ⟨x, p', ?_, hp', ?_⟩
  · rcases List.mem_append.mp hx with h | h
    · exact gd_mono (gd15 _ h) (Nat.le_refl _) (by omega)
    · exact gd9 hl hy _ h
  refine (seq_nx (set_k hN)).trans ?_
  refine (seq_nx (set_k (v := .d (.list xs15)) (m1 := penO p :: R) ?_)).trans ?_
  · have hz1 : (Str.ofString "z").length = 1 := by decide +kernel
    simp [sizeLine_eq, fnM, fnOut, sSeq, sIf, sSet, sRet, sRetN, sNil, sEx, sAsg, sPar, sAug, eVar, eC, eBin, eBinF, eCB, c1, c2, c1F, aCons, aNil, eAnd, eOr, eNot, bNot, bTru, bAnd, bOr, bOf, eIf, eCall, eChain, eIs, eIs2, eNeg, eIsN, isnE, eLst, eTup, asD, eTupT, eIxT, eLstL, eApp, eGet, sPut, sSetIx, eSl, eSlF, oNo, oYes, eRev, gNm, gTp, setAll, vw, vwF, vwFs, truD, addD, subD, mulD', mulD, powD, ixD, lenD, cmpI, ltD, leD, gtD, geD, isT_int, isT_bool, isT_str, isT_list, isT_tuple, ty_int, ty_bool, ty_str, ty_list, ty_tuple, isT2, xs15, hz1]
  refine (seq_nx (set_k (v := .d (.list (xs15 ++ xs9 ys kvs))) (m1 := penO p :: R) ?_)).trans ?_
  · have hl9 := hx9 kvs
    have h15 : xs15.length = 15 := rfl
    simp only [List.set_cons_succ, List.set_cons_zero] at hk ⊢
    simp [eBin, eLst, aCons, aNil, eC, eVar, hk, eDct0, eCB, c1, vw, tupleD, listD, asD, eTup, addD]
    simp [xs9, h15, hz]
  refine ret_k ?_
  have h24 : ((xs15 ++ xs9 ys kvs).length : Int) = 24 := by rw [List.length_append, hx9]; rfl
  simp only [List.set_cons_succ, List.set_cons_zero]
  simp [-List.length_append, eBin, eVar, eCall, aCons, aNil, eCB, c1, vw, lenD, h24, hd, ixD, ha]
theorem costA_le : ∀ d, d ≤ 3 → costA d ≤ 200 := by decide
theorem r_anything : ∀ (d fuel n : Nat) (p : Pen) (R : Mem), d ≤ 2 → d < fuel → okP n p → n + 10000 * d ≤ 800000000 → ∃ x p', gd 64 (d + 1) x ∧ okP (n + costA d) p' ∧ m__law_anything fuel [.l 0, .d (.int d)] (penO p :: R) = some (.d x, penO p' :: R) := by
  intro d
  induction d with
  | zero =>
    intro fuel n p R hd hf hp hn
    obtain ⟨fuel, rfl⟩ : ∃ f, fuel = f + 1 := ⟨fuel - 1, by omega⟩
    have hN : eFrz (eLc (iRg1 (eIf (bOf (eBin gtD (eVar 1) (eC (.int 0)))) (eCall m__law_draw (aCons (eVar 0) (aCons (eC (.int 4)) aNil))) (eC (.int 0)))) (gNm 4) cYes (eCall (m__law_anything fuel) (aCons (eVar 0) (aCons (eBin subD (eVar 1) (eC (.int 1))) aNil))) [4]) [some (.l 0), some (.d (.int ((0 : Nat) : Int))), none, none, none] (penO p :: R) = some (.d (.list []), penO p :: R) := by
      refine frz_lc (A := penO p :: R) (A' := penO p :: R) (rg1_of (j := 0) ?_ (by decide) (by decide)) rfl rfl ?_
      · simp [sizeLine_eq, fnM, fnOut, sSeq, sIf, sSet, sRet, sRetN, sNil, sEx, sAsg, sPar, sAug, eVar, eC, eBin, eBinF, eCB, c1, c2, c1F, aCons, aNil, eAnd, eOr, eNot, bNot, bTru, bAnd, bOr, bOf, eIf, eCall, eChain, eIs, eIs2, eNeg, eIsN, isnE, eLst, eTup, asD, eTupT, eIxT, eLstL, eApp, eGet, sPut, sSetIx, eSl, eSlF, oNo, oYes, eRev, gNm, gTp, setAll, vw, vwF, vwFs, truD, addD, subD, mulD', mulD, powD, ixD, lenD, cmpI, ltD, leD, gtD, geD, isT_int, isT_bool, isT_str, isT_list, isT_tuple, ty_int, ty_bool, ty_str, ty_list, ty_tuple, isT2]
      · simp [rgL, lcL, noC]
    obtain ⟨x, p', h1, h2, h3⟩ := r_anyTail (d := 0) ((0 : Nat) : Int) p R _ hp (by omega) (by decide) (by simp) hN
    exact ⟨x, p', h1, h2.mono (by simp [costA]), fn_rt rfl h3⟩
  | succ d ih =>
    intro fuel n p R hd hf hp hn
    obtain ⟨fuel, rfl⟩ : ∃ f, fuel = f + 1 := ⟨fuel - 1, by omega⟩
    obtain ⟨i, p1, i0, i1, hp1, hdr⟩ := r_draw (k := 4) p R hp (by omega) (by decide) (by decide)
    have hc := costA_le d (by omega)
    have hlen : (rgL 0 i.toNat).length ≤ 3 := by rw [rgL_len]; omega
    have hmul : costA d * (rgL 0 i.toNat).length ≤ costA d * 3 := Nat.mul_le_mul_left _ hlen
    obtain ⟨ys, p2, l1, l2, l3, l4⟩ := frz_pen (it := iRg1 (eIf (bOf (eBin gtD (eVar 1) (eC (.int 0)))) (eCall m__law_draw (aCons (eVar 0) (aCons (eC (.int 4)) aNil))) (eC (.int 0)))) (f := eCall (m__law_anything fuel) (aCons (eVar 0) (aCons (eBin subD (eVar 1) (eC (.int 1))) aNil))) (i := 4) (e := [some (.l 0), some (.d (.int ((d + 1 : Nat) : Int))), none, none, none]) (p := p) (p1 := p1) (R := R) (xs := rgL 0 i.toNat) (gd 64 (d + 1)) (n := n + 1) (k := costA d)
      (rg1_of (by
        have e1 : (0 : Int) < (d : Int) + 1 := by omega
        simp [eIf, bOf, eBin, eVar, eC, vw, gtD, cmpI, e1, eCall, aCons, aNil, hdr]) i0 (by omega)) hp1 (by omega) (by
        intro x hx q j S hq hj
        obtain ⟨y, q', y1, y2, y3⟩ := ih fuel j q S (by omega) (by omega) hq (by omega)
        refine ⟨y, q', y1, y2, ?_⟩
        have e1 : ((d + 1 : Nat) : Int) - 1 = (d : Int) := by omega
        simp only [Int.natCast_add, Int.natCast_one] at e1
        simp [eCall, aCons, aNil, eVar, eBin, eC, vw, subD, wipeE, e1, y3])
    obtain ⟨x, p', h1, h2, h3⟩ := r_anyTail (d := d + 1) ((d + 1 : Nat) : Int) p2 R _ l3 (by omega) (by omega) l2 l4
    exact ⟨x, p', h1, h2.mono (by simp only [costA]; omega), fn_rt rfl h3⟩
end Lw
set_option Elab.async false
set_option linter.all false
set_option maxRecDepth 10000
set_option maxHeartbeats 4000000
namespace Lw
open PySem PySem.Spec PyProof.Rows DL L2

theorem pow_twice {N : Nat} (h : 1 ≤ N) {i : Nat} (hi : i < 2 ^ N) : 2 * i + 1 < 2 ^ (2 * N) := by
  have h1 : 2 ^ (N + 1) ≤ 2 ^ (2 * N) := Nat.pow_le_pow_right (by decide) (by omega)
  rw [Nat.pow_succ] at h1
  omega
theorem six_le {N : Nat} (h : 64 ≤ N) : 18446744073709551616 ≤ 2 ^ N := Nat.pow_le_pow_right (n := 2) (by decide) h
/-- the list of seven, of a number -/
def ns7 (a b c : Int) (d : Int) : List PyData := [.int a, .int b, .int c, .int 0, .int 1, .int 1000000000000000000, .int d]
theorem gd7 {N k : Nat} {a b c d : Int} (hN : 64 ≤ N) (ha : a.natAbs < 2 ^ N) (hb : b.natAbs < 2 ^ N) (hc : c.natAbs < 2 ^ N) (hd : d.natAbs < 2 ^ N) : ∀ y ∈ ns7 a b c d, gd N k y := by
  intro y hy
  have := six_le hN
  simp only [ns7, List.mem_cons, List.not_mem_nil, or_false] at hy
  rcases hy with rfl | rfl | rfl | rfl | rfl | rfl | rfl
  · exact gd_i ha
  · exact gd_i hb
  · exact gd_i hc
  · exact gd_i (by omega)
  · exact gd_i (by omega)
  · exact gd_i (by omega)
  · exact gd_i hd
theorem mem_cut {α : Type} {xs : List α} {lo hi : Option Int} {y : α} (h : y ∈ DL.cutD xs lo hi) : y ∈ xs := List.mem_of_mem_drop (List.mem_of_mem_take h)
theorem len_cut {α : Type} (xs : List α) (lo hi : Option Int) : (DL.cutD xs lo hi).length ≤ xs.length := by
  unfold DL.cutD
  rw [List.length_take, List.length_drop]
  omega
def t7 (x : PyData) : List PyData := [.none, .str "a", .str "wind", .str "turn", .str "piece", .int 1, .tuple []]
theorem gd_t7 {N k : Nat} (hN : 64 ≤ N) (x : PyData) : ∀ y ∈ t7 x, gd N (k + 1) y := by
  intro y hy
  have := six_le hN
  simp only [t7, List.mem_cons, List.not_mem_nil, or_false] at hy
  rcases hy with rfl | rfl | rfl | rfl | rfl | rfl | rfl
  · trivial
  · exact gd_mono (n := 64) (k := 0) (gd_s (by decide +kernel) (by decide +kernel)) hN (by omega)
  · exact gd_mono (n := 64) (k := 0) (gd_s (by decide +kernel) (by decide +kernel)) hN (by omega)
  · exact gd_mono (n := 64) (k := 0) (gd_s (by decide +kernel) (by decide +kernel)) hN (by omega)
  · exact gd_mono (n := 64) (k := 0) (gd_s (by decide +kernel) (by decide +kernel)) hN (by omega)
  · exact gd_i (by omega)
  · exact ⟨by simp, by simp⟩
noncomputable abbrev tailI : ME := (eBin ixD (eLst (aCons (eBin addD (eVar 1) (eC (.int 1))) (aCons (eBin subD (eVar 1) (eC (.int 1))) (aCons (eBin subD (eC (.int 0)) (eVar 1)) (aCons (eC (.int 0)) (aCons (eC (.int 1)) (aCons (eBin powD (eC (.int 10)) (eC (.int 18))) (aCons (eBin mulD' (eC (.int 2)) (eVar 1)) aNil)))))))) (eBin subD (eVar 2) (eC (.int 1))))
noncomputable abbrev tailL : ME := (eBin ixD (eLst (aCons (eSl (eVar 1) (oYes (eC (.int 1))) oNo) (aCons (eSl (eVar 1) oNo (oYes (eNeg (eC (.int 1))))) (aCons (eBin addD (eVar 1) (eSl (eVar 1) (oYes (eNeg (eC (.int 1)))) oNo)) (aCons (eRev (eVar 1)) (aCons (eCB (c1 listD) (aCons (eVar 1) aNil)) (aCons (eCB (c1 tupleD) (aCons (eVar 1) aNil)) (aCons (eBin mulD' (eVar 1) (eC (.int 2))) aNil)))))))) (eBin subD (eVar 2) (eC (.int 1))))
noncomputable abbrev tailT : ME := (eBin ixD (eLst (aCons (eC .none) (aCons (eC (.str "a")) (aCons (eC (.str "wind")) (aCons (eC (.str "turn")) (aCons (eC (.str "piece")) (aCons (eC (.int 1)) (aCons (eTup aNil) aNil)))))))) (eBin subD (eVar 2) (eC (.int 1))))
noncomputable abbrev tailS : MS := (sSeq (sSet 2 (eCall m__law_draw (aCons (eVar 0) (aCons (eC (.int 8)) aNil))))
    (sSeq (sIf (bOf (eBinF eqD (eVar 2) (eC (.int 0)))) (sRet (eCall (m__law_anything fuel__law_anything) (aCons (eVar 0) (aCons (eC (.int 1)) aNil)))) sNil)
    (sSeq (sIf (bTru (eIs "int" (eVar 1))) (sRet tailI) sNil)
    (sSeq (sIf (bTru (eIs2 "list" "tuple" (eVar 1))) (sRet tailL) sNil)
    (sRet tailT)))))
abbrev bEnv (x : PyData) (t : Int) : Env' := [some (.l 0), some (.d x), some (.d (.int t)), none, none]
theorem e_tailI {N k : Nat} {x : PyData} {t : Int} (m : Mem) (hN : 64 ≤ N) (hN2 : N ≤ 1000) (hx : gd N k x) (hi : ty_int x = true) (t0 : 1 ≤ t) (t1 : t < 8) : ∃ y, gd (2 * N) k y ∧ tailI (bEnv x t) m = some (.d y, m) := by
  have hz : sizeLine = 16777216 := sizeLine_eq
  have h2N : 64 ≤ 2 * N := by omega
  have s2 := six_le h2N
  cases x with
  | int i =>
    have h1 := gd_int hx
    have h2 := pow_twice (by omega) h1
    have hm : mulD' (.int 2) (.int i) = some (.int (2 * i)) := by
      have := mul_ok (i := 2) (j := i) (a := 2) (b := N) (by decide) h1 (by decide) (by omega) (by omega)
      simp only [mulD', mulD]
      rw [if_pos this]
    obtain ⟨y, hy, ha⟩ := atI_ok (ns7 (i + 1) (i - 1) (0 - i) (2 * i)) (t - 1) (by omega) (by show t - 1 < 7; omega)
    refine ⟨y, gd7 h2N (by omega) (by omega) (by omega) (by omega) y hy, ?_⟩
    have : ns7 (i + 1) (i - 1) (0 - i) (2 * i) = [.int (i + 1), .int (i - 1), .int (0 - i), .int 0, .int 1, .int 1000000000000000000, .int (2 * i)] := rfl
    rw [this] at ha
    simp only [Int.zero_sub] at ha
    simp [bEnv, tailI, sizeLine_eq, fnM, fnOut, sSeq, sIf, sSet, sRet, sRetN, sNil, sEx, sAsg, sPar, sAug, eVar, eC, eBin, eBinF, eCB, c1, c2, c1F, aCons, aNil, eAnd, eOr, eNot, bNot, bTru, bAnd, bOr, bOf, eIf, eCall, eChain, eIs, eIs2, eNeg, eIsN, isnE, eLst, eTup, asD, eTupT, eIxT, eLstL, eApp, sPut, sSetIx, eSl, eSlF, oNo, oYes, eRev, gNm, gTp, setAll, vw, vwF, vwFs, truD, addD, subD, powD, ixD, lenD, cmpI, ltD, leD, gtD, geD, isT_int, isT_bool, isT_str, isT_list, isT_tuple, ty_int, ty_bool, ty_str, ty_list, ty_tuple, isT2, hm, hz, ha]
  | bool b =>
    obtain ⟨y, hy, ha⟩ := atI_ok (ns7 ((if b = true then (1 : Int) else 0) + 1) ((if b = true then (1 : Int) else 0) - 1) (0 - if b = true then (1 : Int) else 0) (2 * if b = true then (1 : Int) else 0)) (t - 1) (by omega) (by show t - 1 < 7; omega)
    refine ⟨y, gd7 h2N (by cases b <;> simp <;> omega) (by cases b <;> simp <;> omega) (by cases b <;> simp <;> omega) (by cases b <;> simp <;> omega) y hy, ?_⟩
    cases b
    · simp [ns7] at ha
      simp [bEnv, tailI, sizeLine_eq, fnM, fnOut, sSeq, sIf, sSet, sRet, sRetN, sNil, sEx, sAsg, sPar, sAug, eVar, eC, eBin, eBinF, eCB, c1, c2, c1F, aCons, aNil, eAnd, eOr, eNot, bNot, bTru, bAnd, bOr, bOf, eIf, eCall, eChain, eIs, eIs2, eNeg, eIsN, isnE, eLst, eTup, asD, eTupT, eIxT, eLstL, eApp, eGet, sPut, sSetIx, eSl, eSlF, oNo, oYes, eRev, gNm, gTp, setAll, vw, vwF, vwFs, truD, addD, subD, mulD', mulD, powD, ixD, lenD, cmpI, ltD, leD, gtD, geD, isT_int, isT_bool, isT_str, isT_list, isT_tuple, ty_int, ty_bool, ty_str, ty_list, ty_tuple, isT2, hz, ha]
    · simp [ns7] at ha
      simp [bEnv, tailI, sizeLine_eq, fnM, fnOut, sSeq, sIf, sSet, sRet, sRetN, sNil, sEx, sAsg, sPar, sAug, eVar, eC, eBin, eBinF, eCB, c1, c2, c1F, aCons, aNil, eAnd, eOr, eNot, bNot, bTru, bAnd, bOr, bOf, eIf, eCall, eChain, eIs, eIs2, eNeg, eIsN, isnE, eLst, eTup, asD, eTupT, eIxT, eLstL, eApp, eGet, sPut, sSetIx, eSl, eSlF, oNo, oYes, eRev, gNm, gTp, setAll, vw, vwF, vwFs, truD, addD, subD, mulD', mulD, powD, ixD, lenD, cmpI, ltD, leD, gtD, geD, isT_int, isT_bool, isT_str, isT_list, isT_tuple, ty_int, ty_bool, ty_str, ty_list, ty_tuple, isT2, hz, ha]
  | _ => simp [ty_int] at hi
theorem e_tailT {N k : Nat} {x : PyData} {t : Int} (m : Mem) (hN : 64 ≤ N) (t0 : 1 ≤ t) (t1 : t < 8) : ∃ y, gd N (k + 1) y ∧ tailT (bEnv x t) m = some (.d y, m) := by
  have hz : sizeLine = 16777216 := sizeLine_eq
  obtain ⟨y, hy, ha⟩ := atI_ok (t7 x) (t - 1) (by omega) (by show t - 1 < 7; omega)
  refine ⟨y, gd_t7 hN x y hy, ?_⟩
  simp only [t7] at ha
  simp [bEnv, tailT, sizeLine_eq, fnM, fnOut, sSeq, sIf, sSet, sRet, sRetN, sNil, sEx, sAsg, sPar, sAug, eVar, eC, eBin, eBinF, eCB, c1, c2, c1F, aCons, aNil, eAnd, eOr, eNot, bNot, bTru, bAnd, bOr, bOf, eIf, eCall, eChain, eIs, eIs2, eNeg, eIsN, isnE, eLst, eTup, asD, eTupT, eIxT, eLstL, eApp, eGet, sPut, sSetIx, eSl, eSlF, oNo, oYes, eRev, gNm, gTp, setAll, vw, vwF, vwFs, truD, addD, subD, mulD', mulD, powD, ixD, lenD, cmpI, ltD, leD, gtD, geD, isT_int, isT_bool, isT_str, isT_list, isT_tuple, ty_int, ty_bool, ty_str, ty_list, ty_tuple, isT2, hz, ha]
theorem mem_rep {α : Type} {xs : List α} {y : α} : ∀ {n : Nat}, y ∈ (List.replicate n xs).flatten → y ∈ xs
  | 0, h => by simp at h
  | n + 1, h => by
    rw [List.replicate_succ, List.flatten_cons] at h
    rcases List.mem_append.mp h with h | h
    · exact h
    · exact mem_rep h
theorem len_rep {α : Type} (xs : List α) : (List.replicate 2 xs).flatten.length = 2 * xs.length := by
  simp [List.replicate]; omega
theorem gd_listN {N M k : Nat} {xs ys : List PyData} (hx : ∀ y ∈ xs, gd N k y) (h : N ≤ M) (hl : ys.length ≤ M) (hy : ∀ y ∈ ys, y ∈ xs) : gd M (k + 1) (.list ys) ∧ gd M (k + 1) (.tuple ys) :=
  ⟨⟨hl, fun y q => gd_mono (hx y (hy y q)) h (Nat.le_refl _)⟩, ⟨hl, fun y q => gd_mono (hx y (hy y q)) h (Nat.le_refl _)⟩⟩
def l7 (c d : List PyData → PyData) (xs : List PyData) : List PyData := [c (DL.cutD xs (some 1) none), c (DL.cutD xs none (some (-1))), c (xs ++ DL.cutD xs (some (-1)) none), c xs.reverse, .list xs, .tuple xs, d xs]
theorem e_tailLl {N k : Nat} {xs : List PyData} {t : Int} (m : Mem) (hN : 64 ≤ N) (hN2 : N ≤ 1000) (hl : xs.length ≤ N) (hx : ∀ y ∈ xs, gd N k y) (t0 : 1 ≤ t) (t1 : t < 8) : ∃ y, gd (2 * N) (k + 1) y ∧ tailL (bEnv (.list xs) t) m = some (.d y, m) := by
  have hz : sizeLine = 16777216 := sizeLine_eq
  have hc := len_cut xs (some (-1)) none
  obtain ⟨y, hy, ha⟩ := atI_ok (l7 PyData.list (fun xs => .list (xs ++ xs)) xs) (t - 1) (by omega) (by show t - 1 < 7; omega)
  refine ⟨y, ?_, ?_⟩
  · simp only [l7, List.mem_cons, List.not_mem_nil, or_false] at hy
    rcases hy with rfl | rfl | rfl | rfl | rfl | rfl | rfl
    · exact (gd_listN hx (by omega) (by have := len_cut xs (some 1) none; omega) fun y h => mem_cut h).1
    · exact (gd_listN hx (by omega) (by have := len_cut xs none (some (-1)); omega) fun y h => mem_cut h).1
    · exact (gd_listN hx (by omega) (by rw [List.length_append]; omega) fun y h => (List.mem_append.mp h).elim id mem_cut).1
    · exact (gd_listN hx (by omega) (by rw [List.length_reverse]; omega) fun y h => List.mem_reverse.mp h).1
    · exact (gd_listN hx (by omega) (by omega) fun y h => h).1
    · exact (gd_listN hx (by omega) (by omega) fun y h => h).2
    · exact (gd_listN hx (by omega) (by rw [List.length_append]; omega) fun y h => (List.mem_append.mp h).elim id id).1
  · have h1 : xs.length + (DL.cutD xs (some (-1)) none).length ≤ 16777216 := by omega
    have h2 : xs.length ≤ 1000 := by omega
    have e0 : DL.addD (.list xs) (.list (DL.cutD xs (some (-1)) none)) = some (.list (xs ++ DL.cutD xs (some (-1)) none)) := by simp [DL.addD, hz, h1]
    have e1 : DL.mulD' (.list xs) (.int 2) = some (.list (xs ++ xs)) := by simp [DL.mulD', DL.mulD, h2]
    simp only [l7] at ha
    simp [-List.map_cons, bEnv, tailL, sizeLine_eq, fnM, fnOut, sSeq, sIf, sSet, sRet, sRetN, sNil, sEx, sAsg, sPar, sAug, eVar, eC, eBin, eBinF, eCB, c1, c2, c1F, aCons, aNil, eAnd, eOr, eNot, bNot, bTru, bAnd, bOr, bOf, eIf, eCall, eChain, eIs, eIs2, eNeg, eIsN, isnE, eLst, eTup, asD, eTupT, eIxT, eLstL, eApp, sPut, sSetIx, eSl, eSlF, oNo, oYes, eRev, gNm, gTp, setAll, vw, vwF, vwFs, truD, addD, subD, powD, ixD, lenD, cmpI, ltD, leD, gtD, geD, isT_int, isT_bool, isT_str, isT_list, isT_tuple, ty_int, ty_bool, ty_str, ty_list, ty_tuple, isT2, hz, slD, revD, listD, tupleD, e0, e1, ha, -DL.addD]
theorem e_tailLt {N k : Nat} {xs : List PyData} {t : Int} (m : Mem) (hN : 64 ≤ N) (hN2 : N ≤ 1000) (hl : xs.length ≤ N) (hx : ∀ y ∈ xs, gd N k y) (t0 : 1 ≤ t) (t1 : t < 8) : ∃ y, gd (2 * N) (k + 1) y ∧ tailL (bEnv (.tuple xs) t) m = some (.d y, m) := by
  have hz : sizeLine = 16777216 := sizeLine_eq
  have hc := len_cut xs (some (-1)) none
  obtain ⟨y, hy, ha⟩ := atI_ok (l7 PyData.tuple (fun xs => .tuple (xs ++ xs)) xs) (t - 1) (by omega) (by show t - 1 < 7; omega)
  refine ⟨y, ?_, ?_⟩
  · simp only [l7, List.mem_cons, List.not_mem_nil, or_false] at hy
    rcases hy with rfl | rfl | rfl | rfl | rfl | rfl | rfl
    · exact (gd_listN hx (by omega) (by have := len_cut xs (some 1) none; omega) fun y h => mem_cut h).2
    · exact (gd_listN hx (by omega) (by have := len_cut xs none (some (-1)); omega) fun y h => mem_cut h).2
    · exact (gd_listN hx (by omega) (by rw [List.length_append]; omega) fun y h => (List.mem_append.mp h).elim id mem_cut).2
    · exact (gd_listN hx (by omega) (by rw [List.length_reverse]; omega) fun y h => List.mem_reverse.mp h).2
    · exact (gd_listN hx (by omega) (by omega) fun y h => h).1
    · exact (gd_listN hx (by omega) (by omega) fun y h => h).2
    · exact (gd_listN hx (by omega) (by rw [List.length_append]; omega) fun y h => (List.mem_append.mp h).elim id id).2
  · have h1 : xs.length + (DL.cutD xs (some (-1)) none).length ≤ 16777216 := by omega
    have h2 : xs.length ≤ 1000 := by omega
    have e0 : DL.addD (.tuple xs) (.tuple (DL.cutD xs (some (-1)) none)) = some (.tuple (xs ++ DL.cutD xs (some (-1)) none)) := by simp [DL.addD, hz, h1]
    have e1 : DL.mulD' (.tuple xs) (.int 2) = some (.tuple (xs ++ xs)) := by cases xs <;> simp [DL.mulD', DL.mulD] <;> simpa using h2
    simp only [l7] at ha
    simp [-List.map_cons, bEnv, tailL, sizeLine_eq, fnM, fnOut, sSeq, sIf, sSet, sRet, sRetN, sNil, sEx, sAsg, sPar, sAug, eVar, eC, eBin, eBinF, eCB, c1, c2, c1F, aCons, aNil, eAnd, eOr, eNot, bNot, bTru, bAnd, bOr, bOf, eIf, eCall, eChain, eIs, eIs2, eNeg, eIsN, isnE, eLst, eTup, asD, eTupT, eIxT, eLstL, eApp, sPut, sSetIx, eSl, eSlF, oNo, oYes, eRev, gNm, gTp, setAll, vw, vwF, vwFs, truD, addD, subD, powD, ixD, lenD, cmpI, ltD, leD, gtD, geD, isT_int, isT_bool, isT_str, isT_list, isT_tuple, ty_int, ty_bool, ty_str, ty_list, ty_tuple, isT2, hz, slD, revD, listD, tupleD, e0, e1, ha, -DL.addD]
end Lw
set_option Elab.async false
set_option linter.all false
set_option maxRecDepth 10000
set_option maxHeartbeats 4000000
namespace Lw
open PySem PySem.Spec PyProof.Rows DL L2

theorem r_tail {n N k : Nat} {x : PyData} (p : Pen) (R : Mem) (hp : okP n p) (hn : n ≤ 700000000) (hN : 64 ≤ N) (hN2 : N ≤ 1000) (hx : gd N k x) : ∃ y p', gd (2 * N) (k + 2) y ∧ okP (n + 9) p' ∧ tailS [some (.l 0), some (.d x), none, none, none] (penO p :: R) = some (.rt (.d y), penO p' :: R) := by
  obtain ⟨t, p1, t0, t1, hp1, hd⟩ := r_draw (k := 8) p R hp (by omega) (by decide) (by decide)
  have hset : (eCall m__law_draw (aCons (eVar 0) (aCons (eC (.int 8)) aNil))) [some (.l 0), some (.d x), none, none, none] (penO p :: R) = some (.d (.int t), penO p1 :: R) := by
    simp [eCall, aCons, aNil, eVar, eC, hd]
  by_cases ht : t = 0
  · subst ht
    obtain ⟨y, p2, h1, h2, h3⟩ := r_anything 1 fuel__law_anything (n + 1) p1 R (by decide) (by decide) hp1 (by omega)
    refine ⟨y, p2, gd_mono h1 (by omega) (by omega), h2.mono (by simp [costA]), ?_⟩
    refine (seq_nx (set_k hset)).trans ?_
    refine seq_rt ?_
    refine (if_t (m1 := penO p1 :: R) ?_).trans (ret_k ?_)
    · simp [sizeLine_eq, fnM, fnOut, sSeq, sIf, sSet, sRet, sRetN, sNil, sEx, sAsg, sPar, sAug, eVar, eC, eBin, eBinF, eCB, c1, c2, c1F, aCons, aNil, eAnd, eOr, eNot, bNot, bTru, bAnd, bOr, bOf, eIf, eCall, eChain, eIs, eIs2, eNeg, eIsN, isnE, eLst, eTup, asD, eTupT, eIxT, eLstL, eApp, eGet, sPut, sSetIx, eSl, eSlF, oNo, oYes, eRev, gNm, gTp, setAll, vw, vwF, vwFs, truD, addD, subD, mulD', mulD, powD, ixD, lenD, cmpI, ltD, leD, gtD, geD, isT_int, isT_bool, isT_str, isT_list, isT_tuple, ty_int, ty_bool, ty_str, ty_list, ty_tuple, isT2, eqD_int]
    · have h4 : m__law_anything fuel__law_anything [.l 0, .d (.int 1)] (penO p1 :: R) = some (.d y, penO p2 :: R) := h3
      simp [eCall, aCons, aNil, eVar, eC, h4]
  · have ht1 : 1 ≤ t := by omega
    have hb : (t == 0) = false := by simpa using ht
    have first : ∀ o, (sSeq (sIf (bTru (eIs "int" (eVar 1))) (sRet tailI) sNil)
        (sSeq (sIf (bTru (eIs2 "list" "tuple" (eVar 1))) (sRet tailL) sNil) (sRet tailT))) (bEnv x t) (penO p1 :: R) = o → tailS [some (.l 0), some (.d x), none, none, none] (penO p :: R) = o := by
      intro o ho
      refine (seq_nx (set_k hset)).trans ?_
      refine (seq_nx (e1 := bEnv x t) (m1 := penO p1 :: R) ?_).trans ho
      refine (if_f (m1 := penO p1 :: R) ?_).trans rfl
      simp [sizeLine_eq, fnM, fnOut, sSeq, sIf, sSet, sRet, sRetN, sNil, sEx, sAsg, sPar, sAug, eVar, eC, eBin, eBinF, eCB, c1, c2, c1F, aCons, aNil, eAnd, eOr, eNot, bNot, bTru, bAnd, bOr, bOf, eIf, eCall, eChain, eIs, eIs2, eNeg, eIsN, isnE, eLst, eTup, asD, eTupT, eIxT, eLstL, eApp, eGet, sPut, sSetIx, eSl, eSlF, oNo, oYes, eRev, gNm, gTp, setAll, vw, vwF, vwFs, truD, addD, subD, mulD', mulD, powD, ixD, lenD, cmpI, ltD, leD, gtD, geD, isT_int, isT_bool, isT_str, isT_list, isT_tuple, ty_int, ty_bool, ty_str, ty_list, ty_tuple, isT2, eqD_int, hb]
    have hp9 : okP (n + 9) p1 := hp1.mono (by omega)
    cases hi : ty_int x with
    | true =>
      obtain ⟨y, hy, he⟩ := e_tailI (penO p1 :: R) hN hN2 hx hi ht1 t1
      refine ⟨y, p1, gd_mono hy (Nat.le_refl _) (by omega), hp9, first _ (seq_rt ((if_t (m1 := penO p1 :: R) ?_).trans (ret_k he)))⟩
      simp [bEnv, bTru, eIs, eVar, vw, isT_int, hi, truD]
    | false =>
      have e1 : (sIf (bTru (eIs "int" (eVar 1))) (sRet tailI) sNil) (bEnv x t) (penO p1 :: R) = some (.nx (bEnv x t), penO p1 :: R) := by
        refine (if_f (m1 := penO p1 :: R) ?_).trans rfl
        simp [bEnv, bTru, eIs, eVar, vw, isT_int, hi, truD]
      have other : ∀ (hh : isT2 "list" "tuple" x = some false), ∃ y, gd N (k + 1) y ∧ tailS [some (.l 0), some (.d x), none, none, none] (penO p :: R) = some (.rt (.d y), penO p1 :: R) := by
        intro hh
        obtain ⟨y, hy, he⟩ := e_tailT (k := k) (x := x) (penO p1 :: R) hN ht1 t1
        refine ⟨y, hy, first _ ((seq_nx e1).trans ((seq_nx ((if_f (m1 := penO p1 :: R) ?_).trans rfl)).trans (ret_k he)))⟩
        simp [bEnv, bTru, eIs2, eVar, vw, hh, truD]
      cases x with
      | list xs =>
        obtain ⟨j, rfl, hl, hxs⟩ := gd_list hx
        obtain ⟨y, hy, he⟩ := e_tailLl (penO p1 :: R) hN hN2 hl hxs ht1 t1
        refine ⟨y, p1, gd_mono hy (Nat.le_refl _) (by omega), hp9, first _ ((seq_nx e1).trans (seq_rt ((if_t (m1 := penO p1 :: R) ?_).trans (ret_k he))))⟩
        simp [bEnv, sizeLine_eq, fnM, fnOut, sSeq, sIf, sSet, sRet, sRetN, sNil, sEx, sAsg, sPar, sAug, eVar, eC, eBin, eBinF, eCB, c1, c2, c1F, aCons, aNil, eAnd, eOr, eNot, bNot, bTru, bAnd, bOr, bOf, eIf, eCall, eChain, eIs, eIs2, eNeg, eIsN, isnE, eLst, eTup, asD, eTupT, eIxT, eLstL, eApp, eGet, sPut, sSetIx, eSl, eSlF, oNo, oYes, eRev, gNm, gTp, setAll, vw, vwF, vwFs, truD, addD, subD, mulD', mulD, powD, ixD, lenD, cmpI, ltD, leD, gtD, geD, isT_int, isT_bool, isT_str, isT_list, isT_tuple, ty_int, ty_bool, ty_str, ty_list, ty_tuple, isT2]
      | tuple xs =>
        obtain ⟨j, rfl, hl, hxs⟩ := gd_tuple hx
        obtain ⟨y, hy, he⟩ := e_tailLt (penO p1 :: R) hN hN2 hl hxs ht1 t1
        refine ⟨y, p1, gd_mono hy (Nat.le_refl _) (by omega), hp9, first _ ((seq_nx e1).trans (seq_rt ((if_t (m1 := penO p1 :: R) ?_).trans (ret_k he))))⟩
        simp [bEnv, sizeLine_eq, fnM, fnOut, sSeq, sIf, sSet, sRet, sRetN, sNil, sEx, sAsg, sPar, sAug, eVar, eC, eBin, eBinF, eCB, c1, c2, c1F, aCons, aNil, eAnd, eOr, eNot, bNot, bTru, bAnd, bOr, bOf, eIf, eCall, eChain, eIs, eIs2, eNeg, eIsN, isnE, eLst, eTup, asD, eTupT, eIxT, eLstL, eApp, eGet, sPut, sSetIx, eSl, eSlF, oNo, oYes, eRev, gNm, gTp, setAll, vw, vwF, vwFs, truD, addD, subD, mulD', mulD, powD, ixD, lenD, cmpI, ltD, leD, gtD, geD, isT_int, isT_bool, isT_str, isT_list, isT_tuple, ty_int, ty_bool, ty_str, ty_list, ty_tuple, isT2]
      | int i => simp [ty_int] at hi
      | bool i => simp [ty_int] at hi
      | none =>
        obtain ⟨y, hy, he⟩ := other (by simp [isT2, isT_list, isT_tuple, ty_list, ty_tuple])
        exact ⟨y, p1, gd_mono hy (by omega) (by omega), hp9, he⟩
      | str s =>
        obtain ⟨y, hy, he⟩ := other (by simp [isT2, isT_list, isT_tuple, ty_list, ty_tuple])
        exact ⟨y, p1, gd_mono hy (by omega) (by omega), hp9, he⟩
      | dict s =>
        obtain ⟨y, hy, he⟩ := other (by simp [isT2, isT_list, isT_tuple, ty_list, ty_tuple])
        exact ⟨y, p1, gd_mono hy (by omega) (by omega), hp9, he⟩
noncomputable abbrev bentCond : MB := (bAnd (bTru (eIs2 "list" "tuple" (eVar 1))) (bAnd (bOf (eBin gtD (eCB (c1 lenD) (aCons (eVar 1) aNil)) (eC (.int 0)))) (bOf (eBin gtD (eCall m__law_draw (aCons (eVar 0) (aCons (eC (.int 6)) aNil))) (eC (.int 0))))))
theorem cut_ends {xs : List PyData} {y : PyData} {i : Int} (i0 : 0 ≤ i) (i1 : i < xs.length) : ((DL.cutD xs none (some i)) ++ [y] ++ (DL.cutD xs (some (i + 1)) none)).length ≤ 2 * xs.length + 1 ∧ ∀ z ∈ (DL.cutD xs none (some i)) ++ [y] ++ (DL.cutD xs (some (i + 1)) none), z = y ∨ z ∈ xs := by
  constructor
  · have h1 := len_cut xs none (some i)
    have h2 := len_cut xs (some (i + 1)) none
    simp only [List.length_append, List.length_singleton]
    omega
  · intro z hz
    rcases List.mem_append.mp hz with hz | hz
    · rcases List.mem_append.mp hz with hz | hz
      · exact .inr (mem_cut hz)
      · simp at hz; exact .inl hz
    · exact .inr (mem_cut hz)
theorem bent_list {fuel n N j : Nat} {xs : List PyData} (p : Pen) (R : Mem) (ih : ∀ (n : Nat) (x : PyData) (p : Pen) (R : Mem), gd N j x → okP n p → n + 100 * (j + 1) ≤ 700000000 → ∃ y p', gd (3 * N) (j + 2) y ∧ okP (n + 20 * (j + 1)) p' ∧ m__law_bent fuel [.l 0, .d x] (penO p :: R) = some (.d y, penO p' :: R))
    (hN : 64 ≤ N) (hN2 : N ≤ 1000) (hl : xs.length ≤ N) (hx : ∀ y ∈ xs, gd N j y) (hp : okP n p) (hn : n + 100 * (j + 2) ≤ 700000000) :
    ∃ y p', gd (3 * N) (j + 3) y ∧ okP (n + 20 * (j + 2)) p' ∧ m__law_bent (fuel + 1) [.l 0, .d (.list xs)] (penO p :: R) = some (.d y, penO p' :: R) := by
  have hz : sizeLine = 16777216 := sizeLine_eq
  by_cases h0 : xs = []
  · subst h0
    obtain ⟨y, p', h1, h2, h3⟩ := r_tail (k := j + 1) (x := .list []) p R hp (by omega) hN hN2 ⟨by simp, by simp⟩
    refine ⟨y, p', gd_mono h1 (by omega) (by omega), h2.mono (by omega), fn_rt rfl ?_⟩
    refine (seq_nx (e1 := [some (.l 0), some (.d (.list [])), none, none, none]) (m1 := penO p :: R) ?_).trans h3
    refine (if_f (m1 := penO p :: R) ?_).trans rfl
    simp [sizeLine_eq, fnM, fnOut, sSeq, sIf, sSet, sRet, sRetN, sNil, sEx, sAsg, sPar, sAug, eVar, eC, eBin, eBinF, eCB, c1, c2, c1F, aCons, aNil, eAnd, eOr, eNot, bNot, bTru, bAnd, bOr, bOf, eIf, eCall, eChain, eIs, eIs2, eNeg, eIsN, isnE, eLst, eTup, asD, eTupT, eIxT, eLstL, eApp, eGet, sPut, sSetIx, eSl, eSlF, oNo, oYes, eRev, gNm, gTp, setAll, vw, vwF, vwFs, truD, addD, subD, mulD', mulD, powD, ixD, lenD, cmpI, ltD, leD, gtD, geD, isT_int, isT_bool, isT_str, isT_list, isT_tuple, ty_int, ty_bool, ty_str, ty_list, ty_tuple, isT2]
  · have hlen : 0 < xs.length := List.length_pos_iff.mpr h0
    obtain ⟨d, p1, d0, d1, hp1, hd⟩ := r_draw (k := 6) p R hp (by omega) (by decide) (by decide)
    by_cases hd6 : 0 < d
    · obtain ⟨i, p2, i0, i1, hp2, hd2⟩ := r_draw (k := xs.length) p1 R hp1 (by omega) (by omega) (by have : (2:Int)^62 = 4611686018427387904 := rfl; omega)
      obtain ⟨a, ha, hat⟩ := atI_ok xs i i0 i1
      obtain ⟨y, p3, y1, y2, y3⟩ := ih (n + 1 + 1) a p2 R (hx a ha) hp2 (by omega)
      obtain ⟨c1', c2'⟩ := cut_ends (y := y) i0 i1
      refine ⟨.list ((DL.cutD xs none (some i)) ++ [y] ++ (DL.cutD xs (some (i + 1)) none)), p3, ⟨by omega, fun z hz => ?_⟩, y2.mono (by omega), fn_rt rfl ?_⟩
      · rcases c2' z hz with rfl | h
        · exact y1
        · exact gd_mono (hx z h) (by omega) (by omega)
      · refine seq_rt ?_
        refine (if_t (m1 := penO p1 :: R) ?_).trans ?_
        · have : (0 : Int) < xs.length := by omega
          simp [sizeLine_eq, fnM, fnOut, sSeq, sIf, sSet, sRet, sRetN, sNil, sEx, sAsg, sPar, sAug, eVar, eC, eBin, eBinF, eCB, c1, c2, c1F, aCons, aNil, eAnd, eOr, eNot, bNot, bTru, bAnd, bOr, bOf, eIf, eCall, eChain, eIs, eIs2, eNeg, eIsN, isnE, eLst, eTup, asD, eTupT, eIxT, eLstL, eApp, eGet, sPut, sSetIx, eSl, eSlF, oNo, oYes, eRev, gNm, gTp, setAll, vw, vwF, vwFs, truD, addD, subD, mulD', mulD, powD, ixD, lenD, cmpI, ltD, leD, gtD, geD, isT_int, isT_bool, isT_str, isT_list, isT_tuple, ty_int, ty_bool, ty_str, ty_list, ty_tuple, isT2, hd, hd6, this, h0, hlen]
        refine (seq_nx (set_k (v := .d (.int i)) (m1 := penO p2 :: R) ?_)).trans ?_
        · simp [sizeLine_eq, fnM, fnOut, sSeq, sIf, sSet, sRet, sRetN, sNil, sEx, sAsg, sPar, sAug, eVar, eC, eBin, eBinF, eCB, c1, c2, c1F, aCons, aNil, eAnd, eOr, eNot, bNot, bTru, bAnd, bOr, bOf, eIf, eCall, eChain, eIs, eIs2, eNeg, eIsN, isnE, eLst, eTup, asD, eTupT, eIxT, eLstL, eApp, eGet, sPut, sSetIx, eSl, eSlF, oNo, oYes, eRev, gNm, gTp, setAll, vw, vwF, vwFs, truD, addD, subD, mulD', mulD, powD, ixD, lenD, cmpI, ltD, leD, gtD, geD, isT_int, isT_bool, isT_str, isT_list, isT_tuple, ty_int, ty_bool, ty_str, ty_list, ty_tuple, isT2, hd2]
        refine (seq_nx (set_k (v := .d (.list [y])) (m1 := penO p3 :: R) ?_)).trans ?_
        · simp [sizeLine_eq, fnM, fnOut, sSeq, sIf, sSet, sRet, sRetN, sNil, sEx, sAsg, sPar, sAug, eVar, eC, eBin, eBinF, eCB, c1, c2, c1F, aCons, aNil, eAnd, eOr, eNot, bNot, bTru, bAnd, bOr, bOf, eIf, eCall, eChain, eIs, eIs2, eNeg, eIsN, isnE, eLst, eTup, asD, eTupT, eIxT, eLstL, eApp, eGet, sPut, sSetIx, eSl, eSlF, oNo, oYes, eRev, gNm, gTp, setAll, vw, vwF, vwFs, truD, addD, subD, mulD', mulD, powD, ixD, lenD, cmpI, ltD, leD, gtD, geD, isT_int, isT_bool, isT_str, isT_list, isT_tuple, ty_int, ty_bool, ty_str, ty_list, ty_tuple, isT2, hat, y3, Option.bind]
        refine ret_k ?_
        have e1 : (DL.cutD xs none (some i)).length + 1 ≤ 16777216 := by have := len_cut xs none (some i); omega
        have e2 : (DL.cutD xs none (some i)).length + (1 + (DL.cutD xs (some (i + 1)) none).length) ≤ 16777216 := by have := len_cut xs none (some i); have := len_cut xs (some (i + 1)) none; omega
        simp [sizeLine_eq, fnM, fnOut, sSeq, sIf, sSet, sRet, sRetN, sNil, sEx, sAsg, sPar, sAug, eVar, eC, eBin, eBinF, eCB, c1, c2, c1F, aCons, aNil, eAnd, eOr, eNot, bNot, bTru, bAnd, bOr, bOf, eIf, eCall, eChain, eIs, eIs2, eNeg, eIsN, isnE, eLst, eTup, asD, eTupT, eIxT, eLstL, eApp, eGet, sPut, sSetIx, eSl, eSlF, oNo, oYes, eRev, gNm, gTp, setAll, vw, vwF, vwFs, truD, addD, subD, mulD', mulD, powD, ixD, lenD, cmpI, ltD, leD, gtD, geD, isT_int, isT_bool, isT_str, isT_list, isT_tuple, ty_int, ty_bool, ty_str, ty_list, ty_tuple, isT2, slD, e1, e2, Nat.add_assoc]
    · obtain ⟨y, p', h1, h2, h3⟩ := r_tail (k := j + 1) (x := .list xs) p1 R hp1 (by omega) hN hN2 ⟨hl, hx⟩
      refine ⟨y, p', gd_mono h1 (by omega) (by omega), h2.mono (by omega), fn_rt rfl ?_⟩
      refine (seq_nx (e1 := [some (.l 0), some (.d (.list xs)), none, none, none]) (m1 := penO p1 :: R) ?_).trans h3
      refine (if_f (m1 := penO p1 :: R) ?_).trans rfl
      have : (0 : Int) < xs.length := by omega
      simp [sizeLine_eq, fnM, fnOut, sSeq, sIf, sSet, sRet, sRetN, sNil, sEx, sAsg, sPar, sAug, eVar, eC, eBin, eBinF, eCB, c1, c2, c1F, aCons, aNil, eAnd, eOr, eNot, bNot, bTru, bAnd, bOr, bOf, eIf, eCall, eChain, eIs, eIs2, eNeg, eIsN, isnE, eLst, eTup, asD, eTupT, eIxT, eLstL, eApp, eGet, sPut, sSetIx, eSl, eSlF, oNo, oYes, eRev, gNm, gTp, setAll, vw, vwF, vwFs, truD, addD, subD, mulD', mulD, powD, ixD, lenD, cmpI, ltD, leD, gtD, geD, isT_int, isT_bool, isT_str, isT_list, isT_tuple, ty_int, ty_bool, ty_str, ty_list, ty_tuple, isT2, hd, hd6, this, h0, hlen]
theorem bent_tuple {fuel n N j : Nat} {xs : List PyData} (p : Pen) (R : Mem) (ih : ∀ (n : Nat) (x : PyData) (p : Pen) (R : Mem), gd N j x → okP n p → n + 100 * (j + 1) ≤ 700000000 → ∃ y p', gd (3 * N) (j + 2) y ∧ okP (n + 20 * (j + 1)) p' ∧ m__law_bent fuel [.l 0, .d x] (penO p :: R) = some (.d y, penO p' :: R))
    (hN : 64 ≤ N) (hN2 : N ≤ 1000) (hl : xs.length ≤ N) (hx : ∀ y ∈ xs, gd N j y) (hp : okP n p) (hn : n + 100 * (j + 2) ≤ 700000000) :
    ∃ y p', gd (3 * N) (j + 3) y ∧ okP (n + 20 * (j + 2)) p' ∧ m__law_bent (fuel + 1) [.l 0, .d (.tuple xs)] (penO p :: R) = some (.d y, penO p' :: R) := by
  have hz : sizeLine = 16777216 := sizeLine_eq
  by_cases h0 : xs = []
  · subst h0
    obtain ⟨y, p', h1, h2, h3⟩ := r_tail (k := j + 1) (x := .tuple []) p R hp (by omega) hN hN2 ⟨by simp, by simp⟩
    refine ⟨y, p', gd_mono h1 (by omega) (by omega), h2.mono (by omega), fn_rt rfl ?_⟩
    refine (seq_nx (e1 := [some (.l 0), some (.d (.tuple [])), none, none, none]) (m1 := penO p :: R) ?_).trans h3
    refine (if_f (m1 := penO p :: R) ?_).trans rfl
    simp [sizeLine_eq, fnM, fnOut, sSeq, sIf, sSet, sRet, sRetN, sNil, sEx, sAsg, sPar, sAug, eVar, eC, eBin, eBinF, eCB, c1, c2, c1F, aCons, aNil, eAnd, eOr, eNot, bNot, bTru, bAnd, bOr, bOf, eIf, eCall, eChain, eIs, eIs2, eNeg, eIsN, isnE, eLst, eTup, asD, eTupT, eIxT, eLstL, eApp, eGet, sPut, sSetIx, eSl, eSlF, oNo, oYes, eRev, gNm, gTp, setAll, vw, vwF, vwFs, truD, addD, subD, mulD', mulD, powD, ixD, lenD, cmpI, ltD, leD, gtD, geD, isT_int, isT_bool, isT_str, isT_list, isT_tuple, ty_int, ty_bool, ty_str, ty_list, ty_tuple, isT2]
  · have hlen : 0 < xs.length := List.length_pos_iff.mpr h0
    obtain ⟨d, p1, d0, d1, hp1, hd⟩ := r_draw (k := 6) p R hp (by omega) (by decide) (by decide)
    by_cases hd6 : 0 < d
    · obtain ⟨i, p2, i0, i1, hp2, hd2⟩ := r_draw (k := xs.length) p1 R hp1 (by omega) (by omega) (by have : (2:Int)^62 = 4611686018427387904 := rfl; omega)
      obtain ⟨a, ha, hat⟩ := atI_ok xs i i0 i1
      obtain ⟨y, p3, y1, y2, y3⟩ := ih (n + 1 + 1) a p2 R (hx a ha) hp2 (by omega)
      obtain ⟨c1', c2'⟩ := cut_ends (y := y) i0 i1
      refine ⟨.tuple ((DL.cutD xs none (some i)) ++ [y] ++ (DL.cutD xs (some (i + 1)) none)), p3, ⟨by omega, fun z hz => ?_⟩, y2.mono (by omega), fn_rt rfl ?_⟩
      · rcases c2' z hz with rfl | h
        · exact y1
        · exact gd_mono (hx z h) (by omega) (by omega)
      · refine seq_rt ?_
        refine (if_t (m1 := penO p1 :: R) ?_).trans ?_
        · have : (0 : Int) < xs.length := by omega
          simp [sizeLine_eq, fnM, fnOut, sSeq, sIf, sSet, sRet, sRetN, sNil, sEx, sAsg, sPar, sAug, eVar, eC, eBin, eBinF, eCB, c1, c2, c1F, aCons, aNil, eAnd, eOr, eNot, bNot, bTru, bAnd, bOr, bOf, eIf, eCall, eChain, eIs, eIs2, eNeg, eIsN, isnE, eLst, eTup, asD, eTupT, eIxT, eLstL, eApp, eGet, sPut, sSetIx, eSl, eSlF, oNo, oYes, eRev, gNm, gTp, setAll, vw, vwF, vwFs, truD, addD, subD, mulD', mulD, powD, ixD, lenD, cmpI, ltD, leD, gtD, geD, isT_int, isT_bool, isT_str, isT_list, isT_tuple, ty_int, ty_bool, ty_str, ty_list, ty_tuple, isT2, hd, hd6, this, h0, hlen]
        refine (seq_nx (set_k (v := .d (.int i)) (m1 := penO p2 :: R) ?_)).trans ?_
        · simp [sizeLine_eq, fnM, fnOut, sSeq, sIf, sSet, sRet, sRetN, sNil, sEx, sAsg, sPar, sAug, eVar, eC, eBin, eBinF, eCB, c1, c2, c1F, aCons, aNil, eAnd, eOr, eNot, bNot, bTru, bAnd, bOr, bOf, eIf, eCall, eChain, eIs, eIs2, eNeg, eIsN, isnE, eLst, eTup, asD, eTupT, eIxT, eLstL, eApp, eGet, sPut, sSetIx, eSl, eSlF, oNo, oYes, eRev, gNm, gTp, setAll, vw, vwF, vwFs, truD, addD, subD, mulD', mulD, powD, ixD, lenD, cmpI, ltD, leD, gtD, geD, isT_int, isT_bool, isT_str, isT_list, isT_tuple, ty_int, ty_bool, ty_str, ty_list, ty_tuple, isT2, hd2]
        refine (seq_nx (set_k (v := .d (.tuple [y])) (m1 := penO p3 :: R) ?_)).trans ?_
        · simp [sizeLine_eq, fnM, fnOut, sSeq, sIf, sSet, sRet, sRetN, sNil, sEx, sAsg, sPar, sAug, eVar, eC, eBin, eBinF, eCB, c1, c2, c1F, aCons, aNil, eAnd, eOr, eNot, bNot, bTru, bAnd, bOr, bOf, eIf, eCall, eChain, eIs, eIs2, eNeg, eIsN, isnE, eLst, eTup, asD, eTupT, eIxT, eLstL, eApp, eGet, sPut, sSetIx, eSl, eSlF, oNo, oYes, eRev, gNm, gTp, setAll, vw, vwF, vwFs, truD, addD, subD, mulD', mulD, powD, ixD, lenD, cmpI, ltD, leD, gtD, geD, isT_int, isT_bool, isT_str, isT_list, isT_tuple, ty_int, ty_bool, ty_str, ty_list, ty_tuple, isT2, hat, y3, Option.bind]
        refine ret_k ?_
        have e1 : (DL.cutD xs none (some i)).length + 1 ≤ 16777216 := by have := len_cut xs none (some i); omega
        have e2 : (DL.cutD xs none (some i)).length + (1 + (DL.cutD xs (some (i + 1)) none).length) ≤ 16777216 := by have := len_cut xs none (some i); have := len_cut xs (some (i + 1)) none; omega
        simp [sizeLine_eq, fnM, fnOut, sSeq, sIf, sSet, sRet, sRetN, sNil, sEx, sAsg, sPar, sAug, eVar, eC, eBin, eBinF, eCB, c1, c2, c1F, aCons, aNil, eAnd, eOr, eNot, bNot, bTru, bAnd, bOr, bOf, eIf, eCall, eChain, eIs, eIs2, eNeg, eIsN, isnE, eLst, eTup, asD, eTupT, eIxT, eLstL, eApp, eGet, sPut, sSetIx, eSl, eSlF, oNo, oYes, eRev, gNm, gTp, setAll, vw, vwF, vwFs, truD, addD, subD, mulD', mulD, powD, ixD, lenD, cmpI, ltD, leD, gtD, geD, isT_int, isT_bool, isT_str, isT_list, isT_tuple, ty_int, ty_bool, ty_str, ty_list, ty_tuple, isT2, slD, e1, e2, Nat.add_assoc]
    · obtain ⟨y, p', h1, h2, h3⟩ := r_tail (k := j + 1) (x := .tuple xs) p1 R hp1 (by omega) hN hN2 ⟨hl, hx⟩
      refine ⟨y, p', gd_mono h1 (by omega) (by omega), h2.mono (by omega), fn_rt rfl ?_⟩
      refine (seq_nx (e1 := [some (.l 0), some (.d (.tuple xs)), none, none, none]) (m1 := penO p1 :: R) ?_).trans h3
      refine (if_f (m1 := penO p1 :: R) ?_).trans rfl
      have : (0 : Int) < xs.length := by omega
      simp [sizeLine_eq, fnM, fnOut, sSeq, sIf, sSet, sRet, sRetN, sNil, sEx, sAsg, sPar, sAug, eVar, eC, eBin, eBinF, eCB, c1, c2, c1F, aCons, aNil, eAnd, eOr, eNot, bNot, bTru, bAnd, bOr, bOf, eIf, eCall, eChain, eIs, eIs2, eNeg, eIsN, isnE, eLst, eTup, asD, eTupT, eIxT, eLstL, eApp, eGet, sPut, sSetIx, eSl, eSlF, oNo, oYes, eRev, gNm, gTp, setAll, vw, vwF, vwFs, truD, addD, subD, mulD', mulD, powD, ixD, lenD, cmpI, ltD, leD, gtD, geD, isT_int, isT_bool, isT_str, isT_list, isT_tuple, ty_int, ty_bool, ty_str, ty_list, ty_tuple, isT2, hd, hd6, this, h0, hlen]
theorem r_bent : ∀ (k fuel n N : Nat) (x : PyData) (p : Pen) (R : Mem), k < fuel → 64 ≤ N → N ≤ 1000 → gd N k x → okP n p → n + 100 * (k + 1) ≤ 700000000 → ∃ y p', gd (3 * N) (k + 2) y ∧ okP (n + 20 * (k + 1)) p' ∧ m__law_bent fuel [.l 0, .d x] (penO p :: R) = some (.d y, penO p' :: R) := by
  have flat : ∀ (k fuel n N : Nat) (x : PyData) (p : Pen) (R : Mem), k < fuel → 64 ≤ N → N ≤ 1000 → gd N k x → okP n p → n + 100 * (k + 1) ≤ 700000000 → isT2 "list" "tuple" x = some false → ∃ y p', gd (3 * N) (k + 2) y ∧ okP (n + 20 * (k + 1)) p' ∧ m__law_bent fuel [.l 0, .d x] (penO p :: R) = some (.d y, penO p' :: R) := by
    intro k fuel n N x p R hf hN hN2 hx hp hn hh
    obtain ⟨fuel, rfl⟩ : ∃ f, fuel = f + 1 := ⟨fuel - 1, by omega⟩
    obtain ⟨y, p', h1, h2, h3⟩ := r_tail p R hp (by omega) hN hN2 hx
    refine ⟨y, p', gd_mono h1 (by omega) (by omega), h2.mono (by omega), fn_rt rfl ?_⟩
    refine (seq_nx (e1 := [some (.l 0), some (.d x), none, none, none]) (m1 := penO p :: R) ?_).trans h3
    refine (if_f (m1 := penO p :: R) ?_).trans rfl
    simp [bAnd, bTru, eIs2, eVar, vw, hh, truD]
  intro k
  induction k with
  | zero =>
    intro fuel n N x p R hf hN hN2 hx hp hn
    cases x with
    | list xs => exact hx.elim
    | tuple xs => exact hx.elim
    | _ => exact flat 0 fuel n N _ p R hf hN hN2 hx hp hn (by simp [isT2, isT_list, isT_tuple, ty_list, ty_tuple])
  | succ k ih =>
    intro fuel n N x p R hf hN hN2 hx hp hn
    obtain ⟨fuel, rfl⟩ : ∃ f, fuel = f + 1 := ⟨fuel - 1, by omega⟩
    have ih' : ∀ (n : Nat) (x : PyData) (p : Pen) (R : Mem), gd N k x → okP n p → n + 100 * (k + 1) ≤ 700000000 → ∃ y p', gd (3 * N) (k + 2) y ∧ okP (n + 20 * (k + 1)) p' ∧ m__law_bent fuel [.l 0, .d x] (penO p :: R) = some (.d y, penO p' :: R) :=
      fun n x p R h1 h2 h3 => ih fuel n N x p R (by omega) hN hN2 h1 h2 h3
    cases x with
    | list xs => exact bent_list p R ih' hN hN2 hx.1 hx.2 hp hn
    | tuple xs => exact bent_tuple p R ih' hN hN2 hx.1 hx.2 hp hn
    | _ => exact flat (k + 1) (fuel + 1) n N _ p R hf hN hN2 hx hp hn (by simp [isT2, isT_list, isT_tuple, ty_list, ty_tuple])
end Lw
set_option Elab.async false
set_option linter.all false
set_option maxRecDepth 10000
set_option maxHeartbeats 4000000
namespace Lw
open PySem PySem.Spec PyProof.Rows DL L2

noncomputable abbrev bodyL : MS := (sSeq (sSet 3 (eIf (bOf (eBinF neD (eVar 1) (eLst aNil))) (eBin ixD (eVar 1) (eNeg (eC (.int 1)))) (eC .none)))
    (sSeq (sSet 4 (eC .none))
    (sSeq (sIf (bOf (eIsN true (eVar 3))) (sSet 4 (eTup (aCons (eBin ixD (eVar 3) (eC (.int 0))) (aCons (eBin addD (eBin ixD (eVar 3) (eC (.int 1))) (eBin mulD' (eBin ixD (eVar 3) (eC (.int 2))) (eBin ixD (eVar 3) (eC (.int 3))))) (aCons (eBin ixD (eVar 2) (eC (.int 2))) (aCons (eBin ixD (eVar 3) (eC (.int 3))) aNil)))))) sNil)
    (sIf (bOf (eBinF eqD (eVar 2) (eVar 4))) (sSetIx (eBin addD (eSl (eVar 3) oNo (oYes (eC (.int 2)))) (eTup (aCons (eBin addD (eBin ixD (eVar 3) (eC (.int 2))) (eBin ixD (eVar 2) (eC (.int 2)))) (aCons (eBin ixD (eVar 3) (eC (.int 3))) aNil)))) (eVar 1) (eNeg (eC (.int 1)))) (sEx (eApp (eVar 1) (eVar 2)))))))
theorem eq_none (t : Sx) (h : PyData.strOk t.w = true) : eqD (sx t) .none = some (.bool false) := by
  have h0 : SeqAt.shaped PyData.none = true := rfl
  simp [eqD, sh4 h, h0]
  rfl
theorem eq_going {s t : Sx} (hs : PyData.strOk s.w = true) (ht : PyData.strOk t.w = true) : eqD (sx t) (sx ⟨s.w, s.f + s.m * s.y, t.m, s.y⟩) = some (.bool (goesB s t)) := by
  have h1 : SeqAt.shaped (sx ⟨s.w, s.f + s.m * s.y, t.m, s.y⟩) = true := sh4 hs
  simp only [eqD, sh4 ht, h1, and_self, if_true]
  simp [sx, PyData.eqv, PyData.eqvAll, goesB]
theorem b_lawStep {x : EV} {m : Mem} {acc : List Sx} {t : Sx} {a3 a4 : Option EV} {B : Nat} (ha : ∀ s ∈ acc, okS B s) (ht : okS B t) (hl : acc.length ≤ 1000) (hB : B < 2 ^ 70) :
    ∃ b3 b4, bodyL [some x, some (.l m.length), some (.d (sx t)), a3, a4] (m ++ [.lst (acc.map sx)]) = some (.nx [some x, some (.l m.length), some (.d (sx t)), b3, b4], m ++ [.lst ((stepJ acc t).map sx)]) := by
  have g1 := fun o : MO => app_get m o
  have g2 := fun o p : MO => app_set m o p
  rcases List.eq_nil_or_concat acc with rfl | ⟨l, s, rfl⟩
  · refine ⟨some (.d .none), some (.d .none), ?_⟩
    have e0 : neD (.list []) (.list []) = some (.bool false) := ne_nil_list []
    have e1 := eq_none t ht.w
    refine (seq_nx (set_k (v := .d .none) (m1 := m ++ [.lst []]) ?_)).trans ?_
    · simp [sizeLine_eq, fnM, fnOut, sSeq, sIf, sSet, sRet, sRetN, sNil, sEx, sAsg, sPar, sAug, eVar, eC, eBin, eBinF, eCB, c1, c2, c1F, aCons, aNil, eAnd, eOr, eNot, bNot, bTru, bAnd, bOr, bOf, eIf, eCall, eChain, eIs, eIs2, eNeg, eIsN, isnE, eLst, eTup, asD, eTupT, eIxT, eLstL, eApp, eGet, sPut, sSetIx, eSl, eSlF, oNo, oYes, eRev, gNm, gTp, setAll, vw, vwF, vwFs, truD, addD, subD, mulD', mulD, powD, ixD, lenD, cmpI, ltD, leD, gtD, geD, isT_int, isT_bool, isT_str, isT_list, isT_tuple, ty_int, ty_bool, ty_str, ty_list, ty_tuple, isT2, g1, e0]
    refine (seq_nx (set_k (v := .d .none) (m1 := m ++ [.lst []]) rfl)).trans ?_
    refine (seq_nx (e1 := [some x, some (.l m.length), some (.d (sx t)), some (.d .none), some (.d .none)]) (m1 := m ++ [.lst []]) ?_).trans ?_
    · simp [sizeLine_eq, fnM, fnOut, sSeq, sIf, sSet, sRet, sRetN, sNil, sEx, sAsg, sPar, sAug, eVar, eC, eBin, eBinF, eCB, c1, c2, c1F, aCons, aNil, eAnd, eOr, eNot, bNot, bTru, bAnd, bOr, bOf, eIf, eCall, eChain, eIs, eIs2, eNeg, eIsN, isnE, eLst, eTup, asD, eTupT, eIxT, eLstL, eApp, eGet, sPut, sSetIx, eSl, eSlF, oNo, oYes, eRev, gNm, gTp, setAll, vw, vwF, vwFs, truD, addD, subD, mulD', mulD, powD, ixD, lenD, cmpI, ltD, leD, gtD, geD, isT_int, isT_bool, isT_str, isT_list, isT_tuple, ty_int, ty_bool, ty_str, ty_list, ty_tuple, isT2]
    refine (if_f (m1 := m ++ [.lst []]) ?_).trans ?_
    · simp [sizeLine_eq, fnM, fnOut, sSeq, sIf, sSet, sRet, sRetN, sNil, sEx, sAsg, sPar, sAug, eVar, eC, eBin, eBinF, eCB, c1, c2, c1F, aCons, aNil, eAnd, eOr, eNot, bNot, bTru, bAnd, bOr, bOf, eIf, eCall, eChain, eIs, eIs2, eNeg, eIsN, isnE, eLst, eTup, asD, eTupT, eIxT, eLstL, eApp, eGet, sPut, sSetIx, eSl, eSlF, oNo, oYes, eRev, gNm, gTp, setAll, vw, vwF, vwFs, truD, addD, subD, mulD', mulD, powD, ixD, lenD, cmpI, ltD, leD, gtD, geD, isT_int, isT_bool, isT_str, isT_list, isT_tuple, ty_int, ty_bool, ty_str, ty_list, ty_tuple, isT2, e1]
    · simp [sizeLine_eq, fnM, fnOut, sSeq, sIf, sSet, sRet, sRetN, sNil, sEx, sAsg, sPar, sAug, eVar, eC, eBin, eBinF, eCB, c1, c2, c1F, aCons, aNil, eAnd, eOr, eNot, bNot, bTru, bAnd, bOr, bOf, eIf, eCall, eChain, eIs, eIs2, eNeg, eIsN, isnE, eLst, eTup, asD, eTupT, eIxT, eLstL, eApp, eGet, sPut, sSetIx, eSl, eSlF, oNo, oYes, eRev, gNm, gTp, setAll, vw, vwF, vwFs, truD, addD, subD, mulD', mulD, powD, ixD, lenD, cmpI, ltD, leD, gtD, geD, isT_int, isT_bool, isT_str, isT_list, isT_tuple, ty_int, ty_bool, ty_str, ty_list, ty_tuple, isT2, g1, g2, stepJ]
  · rw [List.concat_eq_append] at ha hl ⊢
    have hs := ha s (by simp)
    have e2 : L2.atI (l.map sx ++ [sx s]) (-1) = some (sx s) := atI_last _ _
    have e3 : ixN (l.length + 1) (-1) = some l.length := ixN_last _
    have e5 : l.length + 1 < 16777216 := by simp at hl; omega
    have e0 : neD (.list (l.map sx ++ [sx s])) (.list []) = some (.bool true) := by rw [ne_nil_list]; simp
    have e1 := eq_going hs.w ht.w
    have hm : mulD' (.int s.m) (.int s.y) = some (.int (s.m * s.y)) := mulI (by have := hs.m; have B : (2 : Nat) ^ 100 = 1267650600228229401496703205376 := rfl; have B2 : (2 : Nat) ^ 70 = 1180591620717411303424 := rfl; omega) (by have := hs.y; have B : (2 : Nat) ^ 100 = 1267650600228229401496703205376 := rfl; omega)
    have e4 : (l.map sx ++ [sx s]).set l.length (sx (addS s t)) = l.map sx ++ [sx (addS s t)] := by
      have := set_last (l.map sx) (sx s) (sx (addS s t))
      simpa using this
    rw [stepJ_last]
    refine ⟨some (.d (sx s)), some (.d (sx ⟨s.w, s.f + s.m * s.y, t.m, s.y⟩)), ?_⟩
    have e20 : (l ++ [s]).map sx = l.map sx ++ [sx s] := by simp
    rw [e20]
    refine (seq_nx (set_k (v := .d (sx s)) (m1 := m ++ [.lst (l.map sx ++ [sx s])]) ?_)).trans ?_
    · simp [sizeLine_eq, fnM, fnOut, sSeq, sIf, sSet, sRet, sRetN, sNil, sEx, sAsg, sPar, sAug, eVar, eC, eBin, eBinF, eCB, c1, c2, c1F, aCons, aNil, eAnd, eOr, eNot, bNot, bTru, bAnd, bOr, bOf, eIf, eCall, eChain, eIs, eIs2, eNeg, eIsN, isnE, eLst, eTup, asD, eTupT, eIxT, eLstL, eApp, eGet, sPut, sSetIx, eSl, eSlF, oNo, oYes, eRev, gNm, gTp, setAll, vw, vwF, vwFs, truD, addD, subD, mulD', mulD, powD, ixD, lenD, cmpI, ltD, leD, gtD, geD, isT_int, isT_bool, isT_str, isT_list, isT_tuple, ty_int, ty_bool, ty_str, ty_list, ty_tuple, isT2, g1, e0, e2]
    refine (seq_nx (set_k (v := .d .none) (m1 := m ++ [.lst (l.map sx ++ [sx s])]) rfl)).trans ?_
    refine (seq_nx (e1 := [some x, some (.l m.length), some (.d (sx t)), some (.d (sx s)), some (.d (sx ⟨s.w, s.f + s.m * s.y, t.m, s.y⟩))]) (m1 := m ++ [.lst (l.map sx ++ [sx s])]) ?_).trans ?_
    · refine (if_t (m1 := m ++ [.lst (l.map sx ++ [sx s])]) ?_).trans ?_
      · simp [sizeLine_eq, fnM, fnOut, sSeq, sIf, sSet, sRet, sRetN, sNil, sEx, sAsg, sPar, sAug, eVar, eC, eBin, eBinF, eCB, c1, c2, c1F, aCons, aNil, eAnd, eOr, eNot, bNot, bTru, bAnd, bOr, bOf, eIf, eCall, eChain, eIs, eIs2, eNeg, eIsN, isnE, eLst, eTup, asD, eTupT, eIxT, eLstL, eApp, eGet, sPut, sSetIx, eSl, eSlF, oNo, oYes, eRev, gNm, gTp, setAll, vw, vwF, vwFs, truD, addD, subD, mulD', mulD, powD, ixD, lenD, cmpI, ltD, leD, gtD, geD, isT_int, isT_bool, isT_str, isT_list, isT_tuple, ty_int, ty_bool, ty_str, ty_list, ty_tuple, isT2, sx]
      · refine set_k ?_
        simp [sizeLine_eq, fnM, fnOut, sSeq, sIf, sSet, sRet, sRetN, sNil, sEx, sAsg, sPar, sAug, eVar, eC, eBin, eBinF, eCB, c1, c2, c1F, aCons, aNil, eAnd, eOr, eNot, bNot, bTru, bAnd, bOr, bOf, eIf, eCall, eChain, eIs, eIs2, eNeg, eIsN, isnE, eLst, eTup, asD, eTupT, eIxT, eLstL, eApp, sPut, sSetIx, eSl, eSlF, oNo, oYes, eRev, gNm, gTp, setAll, vw, vwF, vwFs, truD, addD, subD, powD, ixD, lenD, cmpI, ltD, leD, gtD, geD, isT_int, isT_bool, isT_str, isT_list, isT_tuple, ty_int, ty_bool, ty_str, ty_list, ty_tuple, isT2, sx, at0, at1, at2, at3, hm]
    cases hg : goesB s t with
    | true =>
      refine (if_t (m1 := m ++ [.lst (l.map sx ++ [sx s])]) ?_).trans ?_
      · simp [sizeLine_eq, fnM, fnOut, sSeq, sIf, sSet, sRet, sRetN, sNil, sEx, sAsg, sPar, sAug, eVar, eC, eBin, eBinF, eCB, c1, c2, c1F, aCons, aNil, eAnd, eOr, eNot, bNot, bTru, bAnd, bOr, bOf, eIf, eCall, eChain, eIs, eIs2, eNeg, eIsN, isnE, eLst, eTup, asD, eTupT, eIxT, eLstL, eApp, eGet, sPut, sSetIx, eSl, eSlF, oNo, oYes, eRev, gNm, gTp, setAll, vw, vwF, vwFs, truD, addD, subD, mulD', mulD, powD, ixD, lenD, cmpI, ltD, leD, gtD, geD, isT_int, isT_bool, isT_str, isT_list, isT_tuple, ty_int, ty_bool, ty_str, ty_list, ty_tuple, isT2, e1, hg]
      · have e8 : sx (addS s t) = .tuple [.str s.w, .int s.f, .int (s.m + t.m), .int s.y] := rfl
        have e9 : slD (sx s) none (some 2) = some (.tuple [.str s.w, .int s.f]) := rfl
        have e10 : DL.ixD (sx s) (.int 2) = some (.int s.m) := rfl
        have e11 : DL.ixD (sx t) (.int 2) = some (.int t.m) := rfl
        have e12 : DL.ixD (sx s) (.int 3) = some (.int s.y) := rfl
        simp [sSetIx, eBin, eSl, oNo, oYes, eVar, eC, vw, e9, e10, e11, e12, addD, eTup, aCons, aNil, asD, eNeg, sizeLine_eq, g1, g2, e3]
        exact e8.symm
    | false =>
      refine (if_f (m1 := m ++ [.lst (l.map sx ++ [sx s])]) ?_).trans ?_
      · simp [sizeLine_eq, fnM, fnOut, sSeq, sIf, sSet, sRet, sRetN, sNil, sEx, sAsg, sPar, sAug, eVar, eC, eBin, eBinF, eCB, c1, c2, c1F, aCons, aNil, eAnd, eOr, eNot, bNot, bTru, bAnd, bOr, bOf, eIf, eCall, eChain, eIs, eIs2, eNeg, eIsN, isnE, eLst, eTup, asD, eTupT, eIxT, eLstL, eApp, eGet, sPut, sSetIx, eSl, eSlF, oNo, oYes, eRev, gNm, gTp, setAll, vw, vwF, vwFs, truD, addD, subD, mulD', mulD, powD, ixD, lenD, cmpI, ltD, leD, gtD, geD, isT_int, isT_bool, isT_str, isT_list, isT_tuple, ty_int, ty_bool, ty_str, ty_list, ty_tuple, isT2, e1, hg]
      · simp [sizeLine_eq, fnM, fnOut, sSeq, sIf, sSet, sRet, sRetN, sNil, sEx, sAsg, sPar, sAug, eVar, eC, eBin, eBinF, eCB, c1, c2, c1F, aCons, aNil, eAnd, eOr, eNot, bNot, bTru, bAnd, bOr, bOf, eIf, eCall, eChain, eIs, eIs2, eNeg, eIsN, isnE, eLst, eTup, asD, eTupT, eIxT, eLstL, eApp, eGet, sPut, sSetIx, eSl, eSlF, oNo, oYes, eRev, gNm, gTp, setAll, vw, vwF, vwFs, truD, addD, subD, mulD', mulD, powD, ixD, lenD, cmpI, ltD, leD, gtD, geD, isT_int, isT_bool, isT_str, isT_list, isT_tuple, ty_int, ty_bool, ty_str, ty_list, ty_tuple, isT2, g1, g2, e5]
theorem r_law_joined {x : EV} {m : Mem} {ss : List Sx} {B : Nat} (hx : Src x m (ss.map sx)) (ok : ∀ s ∈ ss, okS B s) (hl : ss.length ≤ 1000) (hB : B * 1001 < 2 ^ 70) : m__law_joined [x] m = some (.l m.length, m ++ [.lst ((joinS ss).map sx)]) := by
  have hE : ∀ (k : Nat), k ≤ 1001 → B * k < 2 ^ 70 := fun k hk => Nat.lt_of_le_of_lt (Nat.mul_le_mul_left B hk) hB
  have loop : ∃ e' m', forL (gNm 2) bodyL (srcC x (ss.map sx)) ((ss.map sx).map EV.d) [some x, some (.l m.length), none, none, none] (m ++ [.lst []]) = some (.nx e', m') ∧
      e'[1]? = some (some (.l m.length)) ∧ m' = m ++ [.lst ((joinS ss).map sx)] := by
    have step : ∀ v xs e mem, (∃ (done rest : List Sx) (a2 a3 a4 : Option EV), done ++ rest = ss ∧ v :: xs = (rest.map sx).map EV.d ∧ e = [some x, some (.l m.length), a2, a3, a4] ∧ mem = m ++ [MO.lst ((done.foldl stepJ []).map sx)] ∧ okA B done.length (done.foldl stepJ [])) →
        srcC x (ss.map sx) mem ∧ ∃ e1, gNm 2 v e mem = some e1 ∧ ∃ e2 m2, bodyL e1 mem = some (.nx e2, m2) ∧ (∃ (done rest : List Sx) (a2 a3 a4 : Option EV), done ++ rest = ss ∧ xs = (rest.map sx).map EV.d ∧ e2 = [some x, some (.l m.length), a2, a3, a4] ∧ m2 = m ++ [MO.lst ((done.foldl stepJ []).map sx)] ∧ okA B done.length (done.foldl stepJ [])) := by
      rintro v xs e mem ⟨done, rest, a2, a3, a4, q1, q2, q3, q4, q7⟩
      cases rest with
      | nil => simp at q2
      | cons t rest =>
        simp only [List.map_cons, List.cons.injEq] at q2
        obtain ⟨rfl, rfl⟩ := q2
        subst q3 q4
        have hk : done.length + 1 ≤ 1000 := by
          have := congrArg List.length q1
          simp at this
          omega
        have ht : okS B t := ok t (by rw [← q1]; simp)
        have ht2 : okS (B * (done.length + 1)) t := ht.mono (by rw [Nat.mul_succ]; omega)
        have ha2 : ∀ s ∈ done.foldl stepJ [], okS (B * (done.length + 1)) s := fun s hs => (q7.ok s hs).mono (by rw [Nat.mul_succ]; omega)
        obtain ⟨b3, b4, hb⟩ := b_lawStep (x := x) (m := m) (a3 := a3) (a4 := a4) ha2 ht2 (Nat.le_trans q7.len (by omega)) (hE _ (by omega))
        have e1 : (done ++ [t]).foldl stepJ [] = stepJ (done.foldl stepJ []) t := by rw [List.foldl_append]; rfl
        refine ⟨src_C hx _, [some x, some (.l m.length), some (.d (sx t)), a3, a4], rfl, _, _, hb, done ++ [t], rest, _, b3, b4, by simpa using q1, rfl, rfl, by rw [e1], ?_⟩
        rw [e1, List.length_append]
        exact q7.step ht
    have fin : ∀ e mem, (∃ (done rest : List Sx) (a2 a3 a4 : Option EV), done ++ rest = ss ∧ [] = (rest.map sx).map EV.d ∧ e = [some x, some (.l m.length), a2, a3, a4] ∧ mem = m ++ [MO.lst ((done.foldl stepJ []).map sx)] ∧ okA B done.length (done.foldl stepJ [])) → srcC x (ss.map sx) mem := by
      rintro e mem ⟨done, rest, a2, a3, a4, q1, q2, q3, q4, q7⟩
      subst q4
      exact src_C hx _
    obtain ⟨e', m', h1, done, rest, a2, a3, a4, q1, q2, q3, q4, q7⟩ := for_ind (fun xs e mem => ∃ (done rest : List Sx) (a2 a3 a4 : Option EV), done ++ rest = ss ∧ xs = (rest.map sx).map EV.d ∧ e = [some x, some (.l m.length), a2, a3, a4] ∧ mem = m ++ [MO.lst ((done.foldl stepJ []).map sx)] ∧ okA B done.length (done.foldl stepJ [])) step fin _ _ _
      ⟨[], ss, none, none, none, rfl, rfl, rfl, rfl, .nil⟩
    have hr : rest = [] := by
      cases rest with
      | nil => rfl
      | cons z zs => simp at q2
    subst hr q3
    rw [List.append_nil] at q1
    subst q1
    exact ⟨_, m', h1, rfl, q4⟩
  obtain ⟨e', m', h1, h2, rfl⟩ := loop
  have hany : iAny (eVar 0) [some x, some (.l m.length), none, none, none] (m ++ [.lst []]) = some ((ss.map sx).map EV.d, srcC x (ss.map sx), m ++ [.lst []]) := src_any hx rfl _
  unfold bodyL at h1
  simp only [List.map_map] at h1 hany
  simp [m__law_joined, b__law_joined, sizeLine_eq, fnM, fnOut, sSeq, sIf, sSet, sRet, sRetN, sNil, sEx, sAsg, sPar, sAug, eVar, eC, eBin, eBinF, eCB, c1, c2, c1F, aCons, aNil, eAnd, eOr, eNot, bNot, bTru, bAnd, bOr, bOf, eIf, eCall, eChain, eIs, eIs2, eNeg, eIsN, isnE, eLst, eTup, asD, eTupT, eIxT, eLstL, eApp, eGet, sPut, sSetIx, eSl, eSlF, oNo, oYes, eRev, gNm, gTp, setAll, vw, vwF, vwFs, truD, addD, subD, mulD', mulD, powD, ixD, lenD, cmpI, ltD, leD, gtD, geD, isT_int, isT_bool, isT_str, isT_list, isT_tuple, ty_int, ty_bool, ty_str, ty_list, ty_tuple, isT2, sFor, hany]
  rw [h1]
  simp [h2]

theorem r_law_turned {m : Mem} {ss : List Sx} {B : Nat} (ok : ∀ s ∈ ss, okS B s) (hl : ss.length ≤ 1000) (hB : B * 1001 < 2 ^ 70) : m__law_turned [.d (.list (ss.map sx))] m = some (.l m.length, m ++ [.lst ((turnS ss).map sx)]) := by
  have hB1 : B < 2 ^ 70 := by omega
  have hz : sizeLine = 16777216 := sizeLine_eq
  have hit : iAny (eRev (eCB (c1 listD) (aCons (eVar 0) aNil))) [some (.d (.list (ss.map sx))), none, none, none, none] m = some ((ss.reverse.map sx).map EV.d, noC, m) := by
    have e1 : eRev (eCB (c1 listD) (aCons (eVar 0) aNil)) [some (.d (.list (ss.map sx))), none, none, none, none] m = some (.d (.list (ss.reverse.map sx)), m) := by
      rw [List.map_reverse]
      simp [-List.map_reverse, eRev, eCB, c1, aCons, aNil, eVar, vw, listD, revD]
    unfold iAny
    rw [e1]
  have hc : eFrz (eLc (iAny (eRev (eCB (c1 listD) (aCons (eVar 0) aNil)))) (gTp [1, 2, 3, 4]) cYes (eTup (aCons (eVar 1) (aCons (eBin addD (eVar 2) (eBin mulD' (eVar 4) (eBin subD (eVar 3) (eC (.int 1))))) (aCons (eVar 3) (aCons (eBin subD (eC (.int 0)) (eVar 4)) aNil))))) [1, 2, 3, 4]) [some (.d (.list (ss.map sx))), none, none, none, none] m = some (.d (.list ((ss.reverse.map aboutS).map sx)), m) := by
    refine (frz_pure (fun v => match v with | .d (.tuple [.str w, .int f, .int n, .int y]) => sx (aboutS ⟨w, f, n, y⟩) | _ => .none) (fun _ => true) hit (by simp; omega) ?_).trans ?_
    · intro v hv acc
      obtain ⟨z, hz1, rfl⟩ := List.mem_map.mp hv
      obtain ⟨t, ht, rfl⟩ := List.mem_map.mp hz1
      have okt := ok t (by simpa using ht)
      have hm : mulD' (.int t.y) (.int (t.m - 1)) = some (.int (t.y * (t.m - 1))) := mulI (by have := okt.y; have B : (2 : Nat) ^ 100 = 1267650600228229401496703205376 := rfl; omega) (by have := okt.m; have B : (2 : Nat) ^ 100 = 1267650600228229401496703205376 := rfl; have B2 : (2 : Nat) ^ 70 = 1180591620717411303424 := rfl; omega)
      refine ⟨[some (.d (.list (ss.map sx))), some (.d (.str t.w)), some (.d (.int t.f)), some (.d (.int t.m)), some (.d (.int t.y))], by simp [gTp, setAll, sx, wipeE], rfl, fun _ => ?_⟩
      simp [sizeLine_eq, fnM, fnOut, sSeq, sIf, sSet, sRet, sRetN, sNil, sEx, sAsg, sPar, sAug, eVar, eC, eBin, eBinF, eCB, c1, c2, c1F, aCons, aNil, eAnd, eOr, eNot, bNot, bTru, bAnd, bOr, bOf, eIf, eCall, eChain, eIs, eIs2, eNeg, eIsN, isnE, eLst, eTup, asD, eTupT, eIxT, eLstL, eApp, sPut, sSetIx, eSl, eSlF, oNo, oYes, eRev, gNm, gTp, setAll, vw, vwF, vwFs, truD, addD, subD, powD, ixD, lenD, cmpI, ltD, leD, gtD, geD, isT_int, isT_bool, isT_str, isT_list, isT_tuple, ty_int, ty_bool, ty_str, ty_list, ty_tuple, isT2, sx, hm, aboutS, Int.mul_comm]
    · rw [fil_true, List.map_map, List.map_map, List.map_map]
      rfl
  have hj := r_law_joined (x := .d (.list ((ss.reverse.map aboutS).map sx))) (m := m) (ss := ss.reverse.map aboutS) (B := B) (src_list _ _) (fun s hs => by
    obtain ⟨t, ht, rfl⟩ := List.mem_map.mp hs
    exact (ok t (by simpa using ht)).about) (by simpa using hl) hB
  simp [-List.map_reverse, -List.map_map, m__law_turned, b__law_turned, sizeLine_eq, fnM, fnOut, sSeq, sIf, sSet, sRet, sRetN, sNil, sEx, sAsg, sPar, sAug, eVar, eC, eBin, eBinF, eCB, c1, c2, c1F, aCons, aNil, eAnd, eOr, eNot, bNot, bTru, bAnd, bOr, bOf, eIf, eCall, eChain, eIs, eIs2, eNeg, eIsN, isnE, eLst, eTup, asD, eTupT, eIxT, eLstL, eApp, eGet, sPut, sSetIx, eSl, eSlF, oNo, oYes, eRev, gNm, gTp, setAll, vw, vwF, vwFs, truD, addD, subD, mulD', mulD, powD, ixD, lenD, cmpI, ltD, leD, gtD, geD, isT_int, isT_bool, isT_str, isT_list, isT_tuple, ty_int, ty_bool, ty_str, ty_list, ty_tuple, isT2, hc, hj, turnS]
end Lw
set_option Elab.async false
set_option linter.all false
set_option maxRecDepth 10000
set_option maxHeartbeats 4000000
namespace Lw
open PySem PySem.Spec PyProof.Rows DL L2

structure wS (L : Nat) (s : Str) : Prop where
  len : s.cps.toList.length ≤ L
  ok : ∀ c ∈ s.cps.toList, c < 1000
theorem wS.strOk {L : Nat} {s : Str} (h : wS L s) : PyData.strOk s = true := by
  simp only [PyData.strOk, Array.all_eq_true']
  intro c hc
  have := h.ok c (by simpa using hc)
  simp
  omega
theorem all_chr : ∀ {ys : List PyData}, (∀ y ∈ ys, ∃ c : Nat, c < 1000 ∧ y = .str ⟨#[c]⟩) → ∃ cs : List Nat, ys = cs.map (fun c => PyData.str ⟨#[c]⟩) ∧ ∀ c ∈ cs, c < 1000
  | [], _ => ⟨[], rfl, by simp⟩
  | y :: ys, h => by
    obtain ⟨cs, rfl, h2⟩ := all_chr fun y hy => h y (List.mem_cons_of_mem _ hy)
    obtain ⟨c, hc, rfl⟩ := h y List.mem_cons_self
    exact ⟨c :: cs, rfl, fun d hd => (List.mem_cons.mp hd).elim (fun e => e ▸ hc) (h2 d)⟩
theorem asS_chr : ∀ cs : List Nat, asS (cs.map fun c => PyData.str ⟨#[c]⟩) = some (cs.map fun c => (⟨#[c]⟩ : Str))
  | [] => rfl
  | c :: cs => by simp [asS, asS_chr cs]
theorem joinL_chr : ∀ cs : List Nat, TL.joinL [] (cs.map fun c => [c]) = cs
  | [] => rfl
  | [c] => rfl
  | c :: d :: cs => by
    have := joinL_chr (d :: cs)
    simp only [List.map_cons] at this ⊢
    simp only [TL.joinL, List.nil_append, this]
    rfl
theorem join_chr (cs : List Nat) : (Txt.join (Str.ofString "") (cs.map fun c => (⟨#[c]⟩ : Str))).cps.toList = cs := by
  rw [TL.join_eq]
  have := TL.tl_join (Str.ofString "") (cs.map fun c => (⟨#[c]⟩ : Str))
  have e1 : TL.tl (Str.ofString "") = [] := rfl
  rw [e1, List.map_map] at this
  refine Eq.trans this ?_
  exact joinL_chr cs
theorem sum_chr : ∀ cs : List Nat, ((cs.map fun c => (⟨#[c]⟩ : Str)).map (·.length)).sum = cs.length
  | [] => rfl
  | c :: cs => by
    have := sum_chr cs
    simp only [List.map_cons, List.sum_cons, List.length_cons, this]
    show 1 + _ = _
    omega
theorem r_joinS {ys : List PyData} (h : ∀ y ∈ ys, ∃ c : Nat, c < 1000 ∧ y = .str ⟨#[c]⟩) (hl : ys.length ≤ 1000) : ∃ s : Str, joinD (.str (Str.ofString "")) (.list ys) = some (.str s) ∧ s.cps.toList.length = ys.length ∧ wS ys.length s := by
  obtain ⟨cs, rfl, h2⟩ := all_chr h
  have e0 : (Str.ofString "").length = 0 := rfl
  rw [List.length_map] at hl ⊢
  refine ⟨Txt.join (Str.ofString "") (cs.map fun c => (⟨#[c]⟩ : Str)), ?_, by rw [join_chr], ⟨by rw [join_chr]; exact Nat.le_refl _, by rw [join_chr]; exact h2⟩⟩
  simp only [joinD, asS_chr, sum_chr, e0]
  rw [if_pos (by rw [Nat.mul_zero]; omega)]
theorem wS.cut {L : Nat} {s : Str} (h : wS L s) (lo hi : Option Int) : wS L (cutS s lo hi) := by
  have h1 : (cutS s lo hi).cps.toList = (s.cps.toList.drop (HT.sIx s.length 0 lo)).take (HT.sIx s.length s.length hi - HT.sIx s.length 0 lo) := by simp [cutS]
  constructor
  · rw [h1, List.length_take, List.length_drop]; have := h.len; omega
  · rw [h1]; exact fun c hc => h.ok c (List.mem_of_mem_drop (List.mem_of_mem_take hc))
theorem app_cps (a b : Str) : (a ++ b).cps.toList = a.cps.toList ++ b.cps.toList := by
  show (a.cps ++ b.cps).toList = _
  simp
theorem wS.app {L M : Nat} {s t : Str} (h : wS L s) (k : wS M t) : wS (L + M) (s ++ t) := by
  constructor
  · rw [app_cps, List.length_append]; have := h.len; have := k.len; omega
  · rw [app_cps]; exact fun c hc => (List.mem_append.mp hc).elim (h.ok c) (k.ok c)
theorem abc_ok : ∀ c ∈ abc.cps.toList, c < 1000 := by decide +kernel
theorem abc_len : abc.length = 26 := by decide +kernel
theorem abc_len2 : abc.cps.toList.length = 26 := by decide +kernel
def wP (y : PyData) : Prop := ∃ s : Str, y = .str s ∧ wS 17 s
theorem r_words {n : Nat} (p : Pen) (R : Mem) (hp : okP n p) (hn : n ≤ 700000000) : ∃ ys p', ys.length = 3 ∧ (∀ y ∈ ys, wP y) ∧ okP (n + 20) p' ∧ m__law_words [.l 0, .d (.int 3)] (penO p :: R) = some (.d (.list ys), penO p' :: R) := by
  have hz : sizeLine = 16777216 := sizeLine_eq
  have B : (2 : Nat) ^ 100 = 1267650600228229401496703205376 := rfl
  have hal : (Str.ofString "abcdefghijklmnopqrstuvwxyz").length = 26 := abc_len
  obtain ⟨i, p1, i0, i1, hp1, hd1⟩ := r_draw (k := 8) p R hp (by omega) (by decide) (by decide)
  have hlen : (rgL 0 (1 + i).toNat).length ≤ 8 := by rw [rgL_len]; omega
  obtain ⟨cs, p2, l1, l2, l3, l4⟩ := frz_pen (it := iRg1 (eBin addD (eC (.int 1)) (eCall m__law_draw (aCons (eVar 0) (aCons (eC (.int 8)) aNil))))) (f := eCall m__law_pick (aCons (eVar 0) (aCons (eVar 2) aNil))) (i := 7) (e := [some (.l 0), some (.d (.int 3)), some (.d (.str abc)), none, none, none, none, none]) (p := p) (p1 := p1) (R := R) (xs := rgL 0 (1 + i).toNat) (fun y => ∃ c : Nat, c < 1000 ∧ y = .str ⟨#[c]⟩) (n := n + 1) (k := 1)
      (rg1_of (by simp [eBin, eC, eCall, aCons, aNil, eVar, hd1, vw, addD]) (by omega) (by omega)) hp1 (by omega) (by
        intro x hx q j S hq hj
        obtain ⟨c, q', c1, c2, c3⟩ := r_pickS (s := abc) q S hq (by omega) (by decide +kernel) (by decide +kernel)
        exact ⟨_, q', ⟨c, abc_ok c c1, rfl⟩, c2, by simp [eCall, aCons, aNil, eVar, wipeE, c3]⟩)
  rw [rgL_len] at l1 l3
  obtain ⟨s, j1, j2, j3⟩ := r_joinS l2 (by omega)
  have hsl : s.length = s.cps.toList.length := str_len s
  have hs1 : 1 ≤ s.length := by omega
  have hs8 : s.length ≤ 8 := by omega
  have ws : wS 8 s := ⟨by omega, j3.ok⟩
  obtain ⟨at_, p3, a0, a1, hp3, hd3⟩ := r_draw (k := s.length) p2 R l3 (by omega) (by omega) (by have : (2:Int)^62 = 4611686018427387904 := rfl; omega)
  obtain ⟨fi, p4, f0, f1, hp4, hd4⟩ := r_draw (k := 26) p3 R hp3 (by omega) (by decide) (by decide)
  obtain ⟨st, p5, s1, hp5, hd5⟩ := r_pick (xs := [.int 1, .int 3, .int 5, .int 7, .int 9, .int 11, .int 15, .int 17, .int 19, .int 21, .int 23, .int 25]) p4 R hp4 (by omega) (by simp) (by decide)
  obtain ⟨t, rfl, t0, t1⟩ : ∃ t : Int, st = .int t ∧ 0 ≤ t ∧ t ≤ 25 := by
    simp only [List.mem_cons, List.not_mem_nil, or_false] at s1
    rcases s1 with rfl | rfl | rfl | rfl | rfl | rfl | rfl | rfl | rfl | rfl | rfl | rfl <;> exact ⟨_, rfl, by decide, by decide⟩
  obtain ⟨ys, p6, k1, k2, k3, k4⟩ := frz_pen (it := iRg1 (eVar 1)) (f := (eBin addD (eBin addD (eSl (eVar 3) oNo (oYes (eVar 4))) (eBin ixD (eVar 2) (eBin modD (eBin addD (eVar 5) (eBin mulD' (eVar 6) (eVar 7))) (eC (.int 26))))) (eSl (eVar 3) (oYes (eBin addD (eVar 4) (eC (.int 1)))) oNo))) (i := 7) (e := [some (.l 0), some (.d (.int 3)), some (.d (.str abc)), some (.d (.str s)), some (.d (.int at_)), some (.d (.int fi)), some (.d (.int t)), none]) (p := p5) (p1 := p5) (R := R) (xs := rgL 0 3) wP (n := n + 1 + 1 * (1 + i).toNat + 1 + 1 + 1) (k := 0)
      (rg1_of (j := 3) rfl (by decide) (by decide)) hp5 (by decide) (by
        intro x hx q j S hq hj
        obtain ⟨k, hk, rfl⟩ := List.mem_map.mp hx
        have hk3 : k < 3 := List.mem_range.mp hk
        have e0 : (0 : Int) + (k : Nat) = k := Int.zero_add _
        obtain ⟨c, hc, hca⟩ := atI_ok abc.cps.toList ((fi + t * (k : Int)) % 26) (Int.emod_nonneg _ (by decide)) (by rw [abc_len2]; exact Int.emod_lt_of_pos _ (by decide))
        have hm : mulD' (.int t) (.int k) = some (.int (t * k)) := mulI (by omega) (by omega)
        have w1 := ws.cut none (some at_)
        have w2 := ws.cut (some (at_ + 1)) none
        have wc : wS 1 ⟨#[c]⟩ := ⟨by simp, by simpa using abc_ok c hc⟩
        have w3 := (w1.app wc).app w2
        have L1 : (cutS s none (some at_)).length ≤ 8 := by rw [str_len]; exact w1.len
        have L2 : (cutS s (some (at_ + 1)) none).length ≤ 8 := by rw [str_len]; exact w2.len
        have L3 : (⟨#[c]⟩ : Str).length = 1 := rfl
        have L4 : (cutS s none (some at_) ++ (⟨#[c]⟩ : Str)).length ≤ 9 := by rw [str_len]; exact (w1.app wc).len
        refine ⟨_, q, ⟨_, rfl, w3⟩, hq, ?_⟩
        have a1 : (cutS s none (some at_)).length + (⟨#[c]⟩ : Str).length ≤ 16777216 := by omega
        have a2 : (cutS s none (some at_) ++ (⟨#[c]⟩ : Str)).length + (cutS s (some (at_ + 1)) none).length ≤ 16777216 := by omega
        have a3 : s.length ≤ 16777216 := by omega
        simp [-List.map_cons, sizeLine_eq, fnM, fnOut, sSeq, sIf, sSet, sRet, sRetN, sNil, sEx, sAsg, sPar, sAug, eVar, eC, eBin, eBinF, eCB, c1, c2, c1F, aCons, aNil, eAnd, eOr, eNot, bNot, bTru, bAnd, bOr, bOf, eIf, eCall, eChain, eIs, eIs2, eNeg, eIsN, isnE, eLst, eTup, asD, eTupT, eIxT, eLstL, eApp, sPut, sSetIx, eSl, eSlF, oNo, oYes, eRev, gNm, gTp, setAll, vw, vwF, vwFs, truD, addD, subD, powD, ixD, lenD, cmpI, ltD, leD, gtD, geD, isT_int, isT_bool, isT_str, isT_list, isT_tuple, ty_int, ty_bool, ty_str, ty_list, ty_tuple, isT2, wipeE, hm, slD, hca, a1, a2, a3, hal, modI, e0])
  rw [rgL_len] at k1 k3
  refine ⟨ys, p6, k1, k2, k3.mono (by omega), fn_rt rfl ?_⟩
  refine (seq_nx (set_k (v := .d (.str abc)) (m1 := penO p :: R) rfl)).trans ?_
  refine (seq_nx (set_k (v := .d (.str s)) (m1 := penO p2 :: R) ?_)).trans ?_
  · refine Eq.trans (b := match (some (EV.d (.list cs), penO p2 :: R) : Option (EV × Mem)) with | some (EV.d d, m2) => (joinD (.str (Str.ofString "")) d).map (fun z => (EV.d z, m2)) | _ => none) ?_ (by simp only [j1, Option.map])
    simp only [List.map, List.replicate, List.cons_append, List.nil_append, List.set_cons_succ, List.set_cons_zero]
    simp only [eBin, eC]
    rw [l4]
    simp [vw, j1]
  have hsl2 : s.length ≤ 16777216 := by omega
  refine (seq_nx (e1 := [some (.l 0), some (.d (.int 3)), some (.d (.str abc)), some (.d (.str s)), some (.d (.int at_)), some (.d (.int fi)), none, none]) (m1 := penO p4 :: R) ?_).trans ?_
  · simp [sizeLine_eq, fnM, fnOut, sSeq, sIf, sSet, sRet, sRetN, sNil, sEx, sAsg, sPar, sAug, eVar, eC, eBin, eBinF, eCB, c1, c2, c1F, aCons, aNil, eAnd, eOr, eNot, bNot, bTru, bAnd, bOr, bOf, eIf, eCall, eChain, eIs, eIs2, eNeg, eIsN, isnE, eLst, eTup, asD, eTupT, eIxT, eLstL, eApp, eGet, sPut, sSetIx, eSl, eSlF, oNo, oYes, eRev, gNm, gTp, setAll, vw, vwF, vwFs, truD, addD, subD, mulD', mulD, powD, ixD, lenD, cmpI, ltD, leD, gtD, geD, isT_int, isT_bool, isT_str, isT_list, isT_tuple, ty_int, ty_bool, ty_str, ty_list, ty_tuple, isT2, hd3, hd4, hsl2]
  refine (seq_nx (set_k (v := .d (.int t)) (m1 := penO p5 :: R) ?_)).trans (ret_k ?_)
  · simp [sizeLine_eq, fnM, fnOut, sSeq, sIf, sSet, sRet, sRetN, sNil, sEx, sAsg, sPar, sAug, eVar, eC, eBin, eBinF, eCB, c1, c2, c1F, aCons, aNil, eAnd, eOr, eNot, bNot, bTru, bAnd, bOr, bOf, eIf, eCall, eChain, eIs, eIs2, eNeg, eIsN, isnE, eLst, eTup, asD, eTupT, eIxT, eLstL, eApp, eGet, sPut, sSetIx, eSl, eSlF, oNo, oYes, eRev, gNm, gTp, setAll, vw, vwF, vwFs, truD, addD, subD, mulD', mulD, powD, ixD, lenD, cmpI, ltD, leD, gtD, geD, isT_int, isT_bool, isT_str, isT_list, isT_tuple, ty_int, ty_bool, ty_str, ty_list, ty_tuple, isT2, hd5]
  · exact k4
end Lw
set_option Elab.async false
set_option linter.all false
set_option maxRecDepth 10000
set_option maxHeartbeats 4000000
namespace Lw
open PySem PySem.Spec PyProof.Rows DL L2

structure rok (s : Sx) : Prop where
  w : wS 17 s.w
  m0 : 1 ≤ s.m
  m1 : s.m ≤ 100000000000000000
  y : s.y = 1 ∨ s.y = -1
  f : s.f.natAbs ≤ 4000000000000000000
theorem rok.gd {s : Sx} (h : rok s) : gd 64 1 (sx s) := by
  have e : (2 : Nat) ^ 64 = 18446744073709551616 := rfl
  refine ⟨by simp, fun y hy => ?_⟩
  simp only [List.mem_cons, List.not_mem_nil, or_false] at hy
  have := h.m0
  have := h.m1
  have := h.f
  have := h.y
  rcases hy with rfl | rfl | rfl | rfl
  · exact gd_s (by rw [str_len]; have := h.w.len; omega) h.w.strOk
  · exact gd_i (by omega)
  · exact gd_i (by omega)
  · exact gd_i (by omega)
theorem yards_f {s : Sx} (h : yardsB (sx s) = true) : 0 ≤ s.f ∧ s.f ≤ big := by
  simp only [yardsB, sx, Bool.and_eq_true, fromToB, decide_eq_true_eq] at h
  exact h.2.1
noncomputable abbrev bodyR : MS := (sSeq (sPar 5 6 (aCons (eCall m__law_pick (aCons (eVar 0) (aCons (eLst (aCons (eC (.int 1)) (aCons (eNeg (eC (.int 1))) aNil))) aNil))) (aCons (eBin addD (eC (.int 1)) (eCall m__law_great (aCons (eVar 0) (aCons (eBin ixD (eLst (aCons (eC (.int 1)) (aCons (eC (.int 1)) (aCons (eC (.int 5)) (aCons (eC (.int 17)) aNil))))) (eCall m__law_draw (aCons (eVar 0) (aCons (eC (.int 4)) aNil)))) aNil)))) aNil)))
    (sSeq (sSet 7 (eCall m__law_pick (aCons (eVar 0) (aCons (eLst (aCons (eC (.int 0)) (aCons (eBin subD (eBin addD (eBin powD (eC (.int 10)) (eC (.int 18))) (eC (.int 1))) (eVar 6)) (aCons (eCall m__law_great (aCons (eVar 0) (aCons (eC (.int 17)) aNil))) aNil)))) aNil))))
    (sSeq (sSet 7 (eIf (bOf (eBinF eqD (eVar 5) (eC (.int 1)))) (eVar 7) (eBin subD (eBin addD (eVar 7) (eVar 6)) (eC (.int 1)))))
    (sSeq (sSet 8 (eCall m__law_pick (aCons (eVar 0) (aCons (eVar 1) aNil))))
    (sSeq (sIf (bAnd (bOf (eBinF neD (eVar 3) (eLst aNil))) (bOf (eBinF eqD (eCall m__law_draw (aCons (eVar 0) (aCons (eC (.int 2)) aNil))) (eC (.int 0))))) (sSeq (sSet 9 (eBin ixD (eVar 3) (eNeg (eC (.int 1)))))
    (sSeq (sSet 10 (eTup (aCons (eBin ixD (eVar 9) (eC (.int 0))) (aCons (eBin addD (eBin ixD (eVar 9) (eC (.int 1))) (eBin mulD' (eBin ixD (eVar 9) (eC (.int 2))) (eBin ixD (eVar 9) (eC (.int 3))))) (aCons (eVar 6) (aCons (eBin ixD (eVar 9) (eC (.int 3))) aNil))))))
    (sAsg (eIf (bTru (eCall m__law_is_yards (aCons (eVar 10) aNil))) (eVar 10) (eTup (aCons (eVar 8) (aCons (eVar 7) (aCons (eVar 6) (aCons (eVar 5) aNil)))))) (gTp [8, 7, 6, 5])))) sNil)
    (sEx (eApp (eVar 3) (eTup (aCons (eVar 8) (aCons (eVar 7) (aCons (eVar 6) (aCons (eVar 5) aNil))))))))))))
abbrev rEnv (ws : List PyData) (r : Nat) (a4 a5 a6 a7 a8 a9 a10 : Option EV) : Env' := [some (.l 0), some (.d (.list ws)), some (.d (.int 6)), some (.l (r + 1)), a4, a5, a6, a7, a8, a9, a10]
theorem b_rowStep {j : Nat} {ws : List PyData} {acc : List Sx} {R : Mem} {q : Pen} {a4 a5 a6 a7 a8 a9 a10 : Option EV} (hw : ∀ y ∈ ws, wP y) (hw0 : ws ≠ []) (hwl : ws.length ≤ 1000) (hacc : ∀ s ∈ acc, rok s) (hl : acc.length ≤ 1000) (hq : okP j q) (hj : j ≤ 700000000) :
    ∃ s q' b5 b6 b7 b8 b9 b10, rok s ∧ okP (j + 60) q' ∧ bodyR (rEnv ws R.length a4 a5 a6 a7 a8 a9 a10) (penO q :: (R ++ [.lst (acc.map sx)])) = some (.nx (rEnv ws R.length a4 b5 b6 b7 b8 b9 b10), penO q' :: (R ++ [.lst ((acc ++ [s]).map sx)])) := by
  have hz : sizeLine = 16777216 := sizeLine_eq
  have B : (2 : Nat) ^ 100 = 1267650600228229401496703205376 := rfl
  have T17 : (10 : Int) ^ 17 = 100000000000000000 := rfl
  obtain ⟨S, hS⟩ : ∃ S, S = R ++ [MO.lst (acc.map sx)] := ⟨_, rfl⟩
  have hSg : ∀ o : MO, (o :: S)[R.length + 1]? = some (.lst (acc.map sx)) := by intro o; rw [hS]; simp
  rw [← hS]
  -- way and many
  obtain ⟨wv, q1, w1, hq1, dw⟩ := r_pick (xs := [.int 1, .int (-1)]) q S hq (by omega) (by simp) (by decide)
  obtain ⟨way, rfl, hway⟩ : ∃ y : Int, wv = .int y ∧ (y = 1 ∨ y = -1) := by
    simp only [List.mem_cons, List.not_mem_nil, or_false] at w1
    rcases w1 with rfl | rfl
    · exact ⟨_, rfl, .inl rfl⟩
    · exact ⟨_, rfl, .inr rfl⟩
  obtain ⟨i, q2, i0, i1, hq2, di⟩ := r_draw (k := 4) q1 S hq1 (by omega) (by decide) (by decide)
  obtain ⟨f, fa, hf⟩ : ∃ f : Nat, L2.atI [PyData.int 1, .int 1, .int 5, .int 17] i = some (.int f) ∧ f ≤ 17 := by
    obtain ⟨a, ha, h⟩ := atI_ok [PyData.int 1, .int 1, .int 5, .int 17] i i0 i1
    simp only [List.mem_cons, List.not_mem_nil, or_false] at ha
    rcases ha with rfl | rfl | rfl | rfl
    · exact ⟨1, h, by decide⟩
    · exact ⟨1, h, by decide⟩
    · exact ⟨5, h, by decide⟩
    · exact ⟨17, h, by decide⟩
  obtain ⟨g, q3, g0, g1, hq3, dg⟩ := r_great (f := f) q2 S hq2 (by omega) (by omega)
  have gle : (10 : Int) ^ f ≤ 10 ^ 17 := by
    have := Nat.pow_le_pow_right (n := 10) (by decide) hf
    exact_mod_cast this
  obtain ⟨many, hmany⟩ : ∃ many, many = 1 + g := ⟨_, rfl⟩
  obtain ⟨h, q4, h0, h1, hq4, dh⟩ := r_great (f := 17) q3 S hq3 (by omega) (by decide)
  obtain ⟨fv, q5, f1, hq5, df⟩ := r_pick (xs := [.int 0, .int (1000000000000000001 - many), .int h]) q4 S hq4 (by omega) (by simp) (by simp)
  obtain ⟨fi, rfl, hfi0, hfi1⟩ : ∃ y : Int, fv = .int y ∧ 0 ≤ y ∧ y ≤ 1000000000000000000 := by
    simp only [List.mem_cons, List.not_mem_nil, or_false] at f1
    rcases f1 with rfl | rfl | rfl
    · exact ⟨_, rfl, by decide, by decide⟩
    · exact ⟨_, rfl, by omega, by omega⟩
    · exact ⟨_, rfl, by omega, by omega⟩
  obtain ⟨first, hfirst⟩ : ∃ z : Int, z = if way = 1 then fi else fi + many - 1 := ⟨_, rfl⟩
  have hfb : first.natAbs ≤ 4000000000000000000 := by rw [hfirst]; split <;> omega
  obtain ⟨wd, q6, d1, hq6, dd⟩ := r_pick (xs := ws) q5 S hq5 (by omega) hw0 (by omega)
  obtain ⟨w, rfl, hww⟩ := hw wd d1
  have hsx0 : rok ⟨w, first, many, way⟩ := ⟨hww, by show 1 ≤ many; omega, by show many ≤ _; omega, hway, hfb⟩
  have pre : ∀ o, (sSeq (sIf (bAnd (bOf (eBinF neD (eVar 3) (eLst aNil))) (bOf (eBinF eqD (eCall m__law_draw (aCons (eVar 0) (aCons (eC (.int 2)) aNil))) (eC (.int 0))))) (sSeq (sSet 9 (eBin ixD (eVar 3) (eNeg (eC (.int 1)))))
    (sSeq (sSet 10 (eTup (aCons (eBin ixD (eVar 9) (eC (.int 0))) (aCons (eBin addD (eBin ixD (eVar 9) (eC (.int 1))) (eBin mulD' (eBin ixD (eVar 9) (eC (.int 2))) (eBin ixD (eVar 9) (eC (.int 3))))) (aCons (eVar 6) (aCons (eBin ixD (eVar 9) (eC (.int 3))) aNil))))))
    (sAsg (eIf (bTru (eCall m__law_is_yards (aCons (eVar 10) aNil))) (eVar 10) (eTup (aCons (eVar 8) (aCons (eVar 7) (aCons (eVar 6) (aCons (eVar 5) aNil)))))) (gTp [8, 7, 6, 5])))) sNil)
    (sEx (eApp (eVar 3) (eTup (aCons (eVar 8) (aCons (eVar 7) (aCons (eVar 6) (aCons (eVar 5) aNil)))))))) (rEnv ws R.length a4 (some (.d (.int way))) (some (.d (.int many))) (some (.d (.int first))) (some (.d (.str w))) a9 a10) (penO q6 :: S) = o → bodyR (rEnv ws R.length a4 a5 a6 a7 a8 a9 a10) (penO q :: S) = o := by
    intro o ho
    refine (seq_nx (e1 := rEnv ws R.length a4 (some (.d (.int way))) (some (.d (.int many))) a7 a8 a9 a10) (m1 := penO q3 :: S) ?_).trans ?_
    · simp [rEnv, sizeLine_eq, fnM, fnOut, sSeq, sIf, sSet, sRet, sRetN, sNil, sEx, sAsg, sPar, sAug, eVar, eC, eBin, eBinF, eCB, c1, c2, c1F, aCons, aNil, eAnd, eOr, eNot, bNot, bTru, bAnd, bOr, bOf, eIf, eCall, eChain, eIs, eIs2, eNeg, eIsN, isnE, eLst, eTup, asD, eTupT, eIxT, eLstL, eApp, eGet, sPut, sSetIx, eSl, eSlF, oNo, oYes, eRev, gNm, gTp, setAll, vw, vwF, vwFs, truD, addD, subD, mulD', mulD, powD, ixD, lenD, cmpI, ltD, leD, gtD, geD, isT_int, isT_bool, isT_str, isT_list, isT_tuple, ty_int, ty_bool, ty_str, ty_list, ty_tuple, isT2, sPar, dw, di, fa, dg, hmany]
    refine (seq_nx (set_k (v := .d (.int fi)) (m1 := penO q5 :: S) ?_)).trans ?_
    · have : m__law_great [.l 0, .d (.int 17)] (penO q3 :: S) = some (.d (.int h), penO q4 :: S) := dh
      simp [rEnv, sizeLine_eq, fnM, fnOut, sSeq, sIf, sSet, sRet, sRetN, sNil, sEx, sAsg, sPar, sAug, eVar, eC, eBin, eBinF, eCB, c1, c2, c1F, aCons, aNil, eAnd, eOr, eNot, bNot, bTru, bAnd, bOr, bOf, eIf, eCall, eChain, eIs, eIs2, eNeg, eIsN, isnE, eLst, eTup, asD, eTupT, eIxT, eLstL, eApp, eGet, sPut, sSetIx, eSl, eSlF, oNo, oYes, eRev, gNm, gTp, setAll, vw, vwF, vwFs, truD, addD, subD, mulD', mulD, powD, ixD, lenD, cmpI, ltD, leD, gtD, geD, isT_int, isT_bool, isT_str, isT_list, isT_tuple, ty_int, ty_bool, ty_str, ty_list, ty_tuple, isT2, this, df]
    refine (seq_nx (set_k (v := .d (.int first)) (m1 := penO q5 :: S) ?_)).trans ?_
    · rw [hfirst]
      by_cases hy : way = 1
      · simp [rEnv, sizeLine_eq, fnM, fnOut, sSeq, sIf, sSet, sRet, sRetN, sNil, sEx, sAsg, sPar, sAug, eVar, eC, eBin, eBinF, eCB, c1, c2, c1F, aCons, aNil, eAnd, eOr, eNot, bNot, bTru, bAnd, bOr, bOf, eIf, eCall, eChain, eIs, eIs2, eNeg, eIsN, isnE, eLst, eTup, asD, eTupT, eIxT, eLstL, eApp, eGet, sPut, sSetIx, eSl, eSlF, oNo, oYes, eRev, gNm, gTp, setAll, vw, vwF, vwFs, truD, addD, subD, mulD', mulD, powD, ixD, lenD, cmpI, ltD, leD, gtD, geD, isT_int, isT_bool, isT_str, isT_list, isT_tuple, ty_int, ty_bool, ty_str, ty_list, ty_tuple, isT2, eqD_int, hy]
      · simp [rEnv, sizeLine_eq, fnM, fnOut, sSeq, sIf, sSet, sRet, sRetN, sNil, sEx, sAsg, sPar, sAug, eVar, eC, eBin, eBinF, eCB, c1, c2, c1F, aCons, aNil, eAnd, eOr, eNot, bNot, bTru, bAnd, bOr, bOf, eIf, eCall, eChain, eIs, eIs2, eNeg, eIsN, isnE, eLst, eTup, asD, eTupT, eIxT, eLstL, eApp, eGet, sPut, sSetIx, eSl, eSlF, oNo, oYes, eRev, gNm, gTp, setAll, vw, vwF, vwFs, truD, addD, subD, mulD', mulD, powD, ixD, lenD, cmpI, ltD, leD, gtD, geD, isT_int, isT_bool, isT_str, isT_list, isT_tuple, ty_int, ty_bool, ty_str, ty_list, ty_tuple, isT2, eqD_int, hy]
    refine (seq_nx (set_k (v := .d (.str w)) (m1 := penO q6 :: S) ?_)).trans ho
    · simp [rEnv, sizeLine_eq, fnM, fnOut, sSeq, sIf, sSet, sRet, sRetN, sNil, sEx, sAsg, sPar, sAug, eVar, eC, eBin, eBinF, eCB, c1, c2, c1F, aCons, aNil, eAnd, eOr, eNot, bNot, bTru, bAnd, bOr, bOf, eIf, eCall, eChain, eIs, eIs2, eNeg, eIsN, isnE, eLst, eTup, asD, eTupT, eIxT, eLstL, eApp, eGet, sPut, sSetIx, eSl, eSlF, oNo, oYes, eRev, gNm, gTp, setAll, vw, vwF, vwFs, truD, addD, subD, mulD', mulD, powD, ixD, lenD, cmpI, ltD, leD, gtD, geD, isT_int, isT_bool, isT_str, isT_list, isT_tuple, ty_int, ty_bool, ty_str, ty_list, ty_tuple, isT2, dd]
  have fin : ∀ (s : Sx) (q' : Pen) (b9 b10 : Option EV), (sEx (eApp (eVar 3) (eTup (aCons (eVar 8) (aCons (eVar 7) (aCons (eVar 6) (aCons (eVar 5) aNil))))))) (rEnv ws R.length a4 (some (.d (.int s.y))) (some (.d (.int s.m))) (some (.d (.int s.f))) (some (.d (.str s.w))) b9 b10) (penO q' :: S) = some (.nx (rEnv ws R.length a4 (some (.d (.int s.y))) (some (.d (.int s.m))) (some (.d (.int s.f))) (some (.d (.str s.w))) b9 b10), penO q' :: (R ++ [.lst ((acc ++ [s]).map sx)])) := by
    intro s q' b9 b10
    have e1 : acc.length < 16777216 := by omega
    have h3 : S[R.length]? = some (.lst (acc.map sx)) := by rw [hS]; simp
    have h4 : S.set R.length (.lst (acc.map sx ++ [PyData.tuple [.str s.w, .int s.f, .int s.m, .int s.y]])) = R ++ [.lst ((acc ++ [s]).map sx)] := by rw [hS, List.map_append]; simp [sx]
    simp [rEnv, sizeLine_eq, fnM, fnOut, sSeq, sIf, sSet, sRet, sRetN, sNil, sEx, sAsg, sPar, sAug, eVar, eC, eBin, eBinF, eCB, c1, c2, c1F, aCons, aNil, eAnd, eOr, eNot, bNot, bTru, bAnd, bOr, bOf, eIf, eCall, eChain, eIs, eIs2, eNeg, eIsN, isnE, eLst, eTup, asD, eTupT, eIxT, eLstL, eApp, eGet, sPut, sSetIx, eSl, eSlF, oNo, oYes, eRev, gNm, gTp, setAll, vw, vwF, vwFs, truD, addD, subD, mulD', mulD, powD, ixD, lenD, cmpI, ltD, leD, gtD, geD, isT_int, isT_bool, isT_str, isT_list, isT_tuple, ty_int, ty_bool, ty_str, ty_list, ty_tuple, isT2, h3, h4, e1]
  by_cases hne : acc = []
  · subst hne
    refine ⟨⟨w, first, many, way⟩, q6, _, _, _, _, a9, a10, hsx0, hq6.mono (by omega), pre _ ((seq_nx (e1 := rEnv ws R.length a4 (some (.d (.int way))) (some (.d (.int many))) (some (.d (.int first))) (some (.d (.str w))) a9 a10) (m1 := penO q6 :: S) ?_).trans (fin ⟨w, first, many, way⟩ q6 a9 a10))⟩
    refine (if_f (m1 := penO q6 :: S) ?_).trans rfl
    have h3 : S[R.length]? = some (.lst []) := by rw [hS]; simp
    simp [rEnv, sizeLine_eq, fnM, fnOut, sSeq, sIf, sSet, sRet, sRetN, sNil, sEx, sAsg, sPar, sAug, eVar, eC, eBin, eBinF, eCB, c1, c2, c1F, aCons, aNil, eAnd, eOr, eNot, bNot, bTru, bAnd, bOr, bOf, eIf, eCall, eChain, eIs, eIs2, eNeg, eIsN, isnE, eLst, eTup, asD, eTupT, eIxT, eLstL, eApp, eGet, sPut, sSetIx, eSl, eSlF, oNo, oYes, eRev, gNm, gTp, setAll, vw, vwF, vwFs, truD, addD, subD, mulD', mulD, powD, ixD, lenD, cmpI, ltD, leD, gtD, geD, isT_int, isT_bool, isT_str, isT_list, isT_tuple, ty_int, ty_bool, ty_str, ty_list, ty_tuple, isT2, h3, ne_nil_list]
  · obtain ⟨c, q7, c0, c1, hq7, dc⟩ := r_draw (k := 2) q6 S hq6 (by omega) (by decide) (by decide)
    have h3 : S[R.length]? = some (.lst (acc.map sx)) := by rw [hS]; simp
    have hne2 : (acc.map sx).isEmpty = false := by cases acc with
      | nil => exact absurd rfl hne
      | cons a l => rfl
    have hne3 : neD (.list (acc.map sx)) (.list []) = some (.bool true) := by rw [ne_nil_list, hne2]; rfl
    by_cases hc : c = 0
    · subst hc
      obtain ⟨l, s, hls⟩ : ∃ l s, acc = l ++ [s] := by
        rcases List.eq_nil_or_concat acc with h | ⟨l, s, h⟩
        · exact absurd h hne
        · exact ⟨l, s, by rw [h, List.concat_eq_append]⟩
      have hs : rok s := hacc s (by rw [hls]; simp)
      have hlast : L2.atI (acc.map sx) (-1) = some (sx s) := by rw [hls, List.map_append]; exact atI_last _ _
      obtain ⟨gs, hgs⟩ : ∃ gs : Sx, gs = ⟨s.w, s.f + s.m * s.y, many, s.y⟩ := ⟨_, rfl⟩
      have sm0 := hs.m0
      have sm1 := hs.m1
      have sf := hs.f
      have sy := hs.y
      have hmb : (s.m * s.y).natAbs = s.m.natAbs := by rcases sy with e | e <;> rw [e] <;> omega
      have E64 : (2 : Nat) ^ 64 = 18446744073709551616 := rfl
      have hgd : gd 64 1 (sx gs) := by
        subst hgs
        refine ⟨by simp, fun y hy => ?_⟩
        simp only [List.mem_cons, List.not_mem_nil, or_false] at hy
        rcases hy with rfl | rfl | rfl | rfl
        · exact gd_s (by rw [str_len]; have := hs.w.len; omega) hs.w.strOk
        · exact gd_i (by show (s.f + s.m * s.y).natAbs < _; omega)
        · exact gd_i (by show many.natAbs < _; omega)
        · exact gd_i (by show s.y.natAbs < _; omega)
      have hm : mulD' (.int s.m) (.int s.y) = some (.int (s.m * s.y)) := mulI (by omega) (by omega)
      have hy := fun m => r_law_is_yards m hgd (by decide)
      have hgx : sx gs = .tuple [.str s.w, .int (s.f + s.m * s.y), .int many, .int s.y] := by rw [hgs]; rfl
      have hcond : (bAnd (bOf (eBinF neD (eVar 3) (eLst aNil))) (bOf (eBinF eqD (eCall m__law_draw (aCons (eVar 0) (aCons (eC (.int 2)) aNil))) (eC (.int 0))))) (rEnv ws R.length a4 (some (.d (.int way))) (some (.d (.int many))) (some (.d (.int first))) (some (.d (.str w))) a9 a10) (penO q6 :: S) = some (true, penO q7 :: S) := by
        simp [rEnv, sizeLine_eq, fnM, fnOut, sSeq, sIf, sSet, sRet, sRetN, sNil, sEx, sAsg, sPar, sAug, eVar, eC, eBin, eBinF, eCB, c1, c2, c1F, aCons, aNil, eAnd, eOr, eNot, bNot, bTru, bAnd, bOr, bOf, eIf, eCall, eChain, eIs, eIs2, eNeg, eIsN, isnE, eLst, eTup, asD, eTupT, eIxT, eLstL, eApp, eGet, sPut, sSetIx, eSl, eSlF, oNo, oYes, eRev, gNm, gTp, setAll, vw, vwF, vwFs, truD, addD, subD, mulD', mulD, powD, ixD, lenD, cmpI, ltD, leD, gtD, geD, isT_int, isT_bool, isT_str, isT_list, isT_tuple, ty_int, ty_bool, ty_str, ty_list, ty_tuple, isT2, h3, hne3, dc, eqD_int]
      obtain ⟨s2, hs2⟩ : ∃ s2 : Sx, s2 = if yardsB (sx gs) = true then gs else ⟨w, first, many, way⟩ := ⟨_, rfl⟩
      have hr2 : rok s2 := by
        rw [hs2]
        split
        · rename_i hyb
          have := yards_f hyb
          have hb : (big : Int) = 1000000000000000000 := rfl
          refine ⟨by rw [hgs]; exact hs.w, by rw [hgs]; show 1 ≤ many; omega, by rw [hgs]; show many ≤ _; omega, by rw [hgs]; exact hs.y, by omega⟩
        · exact hsx0
      refine ⟨s2, q7, _, _, _, _, some (.d (sx s)), some (.d (sx gs)), hr2, hq7.mono (by omega), pre _ ((seq_nx (e1 := rEnv ws R.length a4 (some (.d (.int s2.y))) (some (.d (.int s2.m))) (some (.d (.int s2.f))) (some (.d (.str s2.w))) (some (.d (sx s))) (some (.d (sx gs)))) (m1 := penO q7 :: S) ?_).trans (fin s2 q7 _ _))⟩
      refine (if_t hcond).trans ?_
      refine (seq_nx (set_k (v := .d (sx s)) (m1 := penO q7 :: S) ?_)).trans ?_
      · simp [rEnv, sizeLine_eq, fnM, fnOut, sSeq, sIf, sSet, sRet, sRetN, sNil, sEx, sAsg, sPar, sAug, eVar, eC, eBin, eBinF, eCB, c1, c2, c1F, aCons, aNil, eAnd, eOr, eNot, bNot, bTru, bAnd, bOr, bOf, eIf, eCall, eChain, eIs, eIs2, eNeg, eIsN, isnE, eLst, eTup, asD, eTupT, eIxT, eLstL, eApp, eGet, sPut, sSetIx, eSl, eSlF, oNo, oYes, eRev, gNm, gTp, setAll, vw, vwF, vwFs, truD, addD, subD, mulD', mulD, powD, ixD, lenD, cmpI, ltD, leD, gtD, geD, isT_int, isT_bool, isT_str, isT_list, isT_tuple, ty_int, ty_bool, ty_str, ty_list, ty_tuple, isT2, h3, hlast]
      refine (seq_nx (set_k (v := .d (sx gs)) (m1 := penO q7 :: S) ?_)).trans ?_
      · rw [hgx]
        simp [rEnv, sizeLine_eq, fnM, fnOut, sSeq, sIf, sSet, sRet, sRetN, sNil, sEx, sAsg, sPar, sAug, eVar, eC, eBin, eBinF, eCB, c1, c2, c1F, aCons, aNil, eAnd, eOr, eNot, bNot, bTru, bAnd, bOr, bOf, eIf, eCall, eChain, eIs, eIs2, eNeg, eIsN, isnE, eLst, eTup, asD, eTupT, eIxT, eLstL, eApp, sPut, sSetIx, eSl, eSlF, oNo, oYes, eRev, gNm, gTp, setAll, vw, vwF, vwFs, truD, addD, subD, powD, ixD, lenD, cmpI, ltD, leD, gtD, geD, isT_int, isT_bool, isT_str, isT_list, isT_tuple, ty_int, ty_bool, ty_str, ty_list, ty_tuple, isT2, sx, at0, at1, at2, at3, hm]
      rw [hs2]
      cases hyb : yardsB (sx gs) with
      | true =>
        have hy2 := fun m => hy m
        simp only [hyb] at hy2
        simp [rEnv, sizeLine_eq, fnM, fnOut, sSeq, sIf, sSet, sRet, sRetN, sNil, sEx, sAsg, sPar, sAug, eVar, eC, eBin, eBinF, eCB, c1, c2, c1F, aCons, aNil, eAnd, eOr, eNot, bNot, bTru, bAnd, bOr, bOf, eIf, eCall, eChain, eIs, eIs2, eNeg, eIsN, isnE, eLst, eTup, asD, eTupT, eIxT, eLstL, eApp, eGet, sPut, sSetIx, eSl, eSlF, oNo, oYes, eRev, gNm, gTp, setAll, vw, vwF, vwFs, truD, addD, subD, mulD', mulD, powD, ixD, lenD, cmpI, ltD, leD, gtD, geD, isT_int, isT_bool, isT_str, isT_list, isT_tuple, ty_int, ty_bool, ty_str, ty_list, ty_tuple, isT2, sAsg, hy2]
        rw [hgx]
        rw [hgs]
        simp [setAll]
      | false =>
        have hy2 := fun m => hy m
        simp only [hyb] at hy2
        simp [rEnv, sizeLine_eq, fnM, fnOut, sSeq, sIf, sSet, sRet, sRetN, sNil, sEx, sAsg, sPar, sAug, eVar, eC, eBin, eBinF, eCB, c1, c2, c1F, aCons, aNil, eAnd, eOr, eNot, bNot, bTru, bAnd, bOr, bOf, eIf, eCall, eChain, eIs, eIs2, eNeg, eIsN, isnE, eLst, eTup, asD, eTupT, eIxT, eLstL, eApp, eGet, sPut, sSetIx, eSl, eSlF, oNo, oYes, eRev, gNm, gTp, setAll, vw, vwF, vwFs, truD, addD, subD, mulD', mulD, powD, ixD, lenD, cmpI, ltD, leD, gtD, geD, isT_int, isT_bool, isT_str, isT_list, isT_tuple, ty_int, ty_bool, ty_str, ty_list, ty_tuple, isT2, sAsg, hy2]
    · have hcb : (c == 0) = false := by simpa using hc
      refine ⟨⟨w, first, many, way⟩, q7, _, _, _, _, a9, a10, hsx0, hq7.mono (by omega), pre _ ((seq_nx (e1 := rEnv ws R.length a4 (some (.d (.int way))) (some (.d (.int many))) (some (.d (.int first))) (some (.d (.str w))) a9 a10) (m1 := penO q7 :: S) ?_).trans (fin ⟨w, first, many, way⟩ q7 a9 a10))⟩
      refine (if_f (m1 := penO q7 :: S) ?_).trans rfl
      simp [rEnv, sizeLine_eq, fnM, fnOut, sSeq, sIf, sSet, sRet, sRetN, sNil, sEx, sAsg, sPar, sAug, eVar, eC, eBin, eBinF, eCB, c1, c2, c1F, aCons, aNil, eAnd, eOr, eNot, bNot, bTru, bAnd, bOr, bOf, eIf, eCall, eChain, eIs, eIs2, eNeg, eIsN, isnE, eLst, eTup, asD, eTupT, eIxT, eLstL, eApp, eGet, sPut, sSetIx, eSl, eSlF, oNo, oYes, eRev, gNm, gTp, setAll, vw, vwF, vwFs, truD, addD, subD, mulD', mulD, powD, ixD, lenD, cmpI, ltD, leD, gtD, geD, isT_int, isT_bool, isT_str, isT_list, isT_tuple, ty_int, ty_bool, ty_str, ty_list, ty_tuple, isT2, h3, hne3, dc, eqD_int, hcb]
theorem r_long_row {n : Nat} {ws : List PyData} (p : Pen) (R : Mem) (hw : ∀ y ∈ ws, wP y) (hw0 : ws ≠ []) (hwl : ws.length ≤ 1000) (hp : okP n p) (hn : n ≤ 600000000) : ∃ (ss : List Sx) (p' : Pen), ss.length ≤ 6 ∧ (∀ s ∈ ss, rok s) ∧ okP (n + 400) p' ∧
    m__law_long_row [.l 0, .d (.list ws), .d (.int 6)] (penO p :: R) = some (.l (R.length + 1), penO p' :: (R ++ [.lst (ss.map sx)])) := by
  obtain ⟨i, p1, i0, i1, hp1, hd⟩ := r_draw (k := 7) p (R ++ [.lst []]) hp (by omega) (by decide) (by decide)
  obtain ⟨e', m', h1, ss, q, a4, a5, a6, a7, a8, a9, a10, rfl, rfl, hq, hr, hl⟩ := for_ind (g := gNm 4) (b := bodyR) (C := noC)
    (fun xs e m => ∃ (ss : List Sx) (q : Pen) (a4 a5 a6 a7 a8 a9 a10 : Option EV), e = rEnv ws R.length a4 a5 a6 a7 a8 a9 a10 ∧ m = penO q :: (R ++ [.lst (ss.map sx)]) ∧ okP (n + 1 + 60 * ss.length) q ∧ (∀ s ∈ ss, rok s) ∧ ss.length + xs.length ≤ 6) (by
      rintro x xs e m ⟨ss, q, a4, a5, a6, a7, a8, a9, a10, rfl, rfl, hq, hr, hl⟩
      simp only [List.length_cons] at hl
      obtain ⟨s, q', b5, b6, b7, b8, b9, b10, c1, c2, c3⟩ := b_rowStep (R := R) (a4 := some x) (a5 := a5) (a6 := a6) (a7 := a7) (a8 := a8) (a9 := a9) (a10 := a10) hw hw0 hwl hr (by omega) hq (by omega)
      refine ⟨trivial, rEnv ws R.length (some x) a5 a6 a7 a8 a9 a10, rfl, _, _, c3, ss ++ [s], q', _, _, _, _, _, _, _, rfl, rfl, ?_, ?_, ?_⟩
      · rw [List.length_append]; exact c2.mono (by simp; omega)
      · intro z hz
        rcases List.mem_append.mp hz with h | h
        · exact hr z h
        · simp at h; subst h; exact c1
      · simp; omega) (fun _ _ _ => trivial) (rgL 0 i.toNat) (rEnv ws R.length none none none none none none none) (penO p1 :: (R ++ [.lst []])) ⟨[], p1, _, _, _, _, _, _, _, rfl, rfl, by simpa using hp1, by simp, by rw [rgL_len]; simp; omega⟩
  simp only [List.length_nil, Nat.add_zero] at hl
  refine ⟨ss, q, hl, hr, hq.mono (by omega), ?_⟩
  have hz : sizeLine = 16777216 := sizeLine_eq
  have hb : b__law_long_row [some (.l 0), some (.d (.list ws)), some (.d (.int 6)), none, none, none, none, none, none, none, none] (penO p :: R) = some (.rt (.l (R.length + 1)), penO q :: (R ++ [.lst (ss.map sx)])) := by
    refine (seq_nx (set_k (v := .l (R.length + 1)) (m1 := penO p :: (R ++ [.lst []])) ?_)).trans ?_
    · simp [eLstL, aNil, asD]
    refine (seq_nx (m1 := penO q :: (R ++ [.lst (ss.map sx)])) (for_of (rg1_of (j := i) ?_ i0 (by omega)) h1)).trans (ret_k rfl)
    simp [eCall, aCons, aNil, eVar, eBin, eC, vw, addD, hd]
  have hm : m__law_long_row [.l 0, .d (.list ws), .d (.int 6)] (penO p :: R) = fnOut (R.length + 1) (some (.rt (.l (R.length + 1)), penO q :: (R ++ [.lst (ss.map sx)]))) := by
    rw [← hb]; rfl
  rw [hm]
  simp [fnOut]
end Lw
set_option Elab.async false
set_option linter.all false
set_option maxRecDepth 10000
set_option maxHeartbeats 4000000
namespace Lw
open PySem PySem.Spec PyProof.Rows DL L2

theorem eqD_str (a b : Str) : eqD (.str a) (.str b) = some (.bool (a == b)) := by
  unfold eqD
  split
  · rfl
  · rfl
theorem neD_str (a : Str) : neD (.str a) (.str a) = some (.bool false) := by
  unfold neD
  split
  · simp [PyData.eqv]
  · simp [vsNil]
theorem repr_ok {d : PyData} (hk : (∃ xs, d = .list xs) ∨ ∃ xs, d = .tuple xs) (h1 : d.canLay0 = true) (h2 : d.showable = true) (h3 : d.depth ≤ 64) (h4 : d.shown.length ≤ 16777216) : reprD d = some (.str d.shown) := by
  have hz := sizeLine_eq
  rcases hk with ⟨xs, rfl⟩ | ⟨xs, rfl⟩ <;> simp [reprD, h1, h2, h3, h4, hz]
theorem repr_bools (a b c : Bool) : ∃ z, reprD (.tuple [.bool a, .bool b, .bool c]) = some (.str z) := by
  refine ⟨_, repr_ok (.inr ⟨_, rfl⟩) (by simp [PyData.canLay0, PyData.canLayAll0]) (by simp [PyData.showable, PyData.showableAll]) (by simp [PyData.depth, PyData.depthAll]) ?_⟩
  have h := PyData.shown_le 13 (by decide) (.tuple [.bool a, .bool b, .bool c]) (PyData.leavesShort_of_canLay0 13 _ (by simp [PyData.canLay0, PyData.canLayAll0]) (by simp [PyData.intsShort, PyData.intsShortAll]))
  have hw : (PyData.tuple [.bool a, .bool b, .bool c]).weight ≤ 3 := by simp [PyData.weight, PyData.weightAll]
  omega
structure fine (s : Sx) : Prop where
  w : PyData.strOk s.w = true
  l : s.w.length ≤ 100
  f : s.f.natAbs < 2 ^ 90
  m : s.m.natAbs < 2 ^ 90
  y : s.y.natAbs < 2 ^ 90
theorem int_short {i : Int} (h : i.natAbs < 2 ^ 90) : (PyData.int i).shown.length ≤ 40 := by
  have e := int_text_length_le10 (k := 39) (a := i) (by decide) (Nat.lt_of_lt_of_le h (by decide))
  show (Str.ofString (toString i)).length ≤ 40
  rw [PySem.ofString_length]; exact e
theorem int_show {i : Int} (h : i.natAbs < 2 ^ 90) : i.natAbs.log2 < 1920 := Nat.lt_of_lt_of_le (log2_lt h (by decide)) (by decide)
theorem int_w {i : Int} (h : i.natAbs < 2 ^ 90) : (PyData.int i).weight ≤ 100 := by
  have := log2_lt h (by decide)
  simp only [PyData.weight]
  split <;> omega
theorem sx_facts {s : Sx} (h : fine s) : (sx s).canLay0 = true ∧ (sx s).showable = true ∧ (sx s).depth ≤ 1 ∧ (sx s).intsShort 40 = true ∧ (sx s).weight ≤ 500 := by
  have w1 := int_w h.f
  have w2 := int_w h.m
  have w3 := int_w h.y
  have w4 : (PyData.str s.w).weight ≤ 100 := h.l
  refine ⟨by simp [sx, PyData.canLay0, PyData.canLayAll0, h.w], by simp [sx, PyData.showable, PyData.showableAll, int_show h.f, int_show h.m, int_show h.y], by simp [sx, PyData.depth, PyData.depthAll], by simp [sx, PyData.intsShort, PyData.intsShortAll, int_short h.f, int_short h.m, int_short h.y], ?_⟩
  show PyData.weightAll _ ≤ 500
  simp only [PyData.weightAll]
  omega
theorem row_facts : ∀ ss : List Sx, (∀ s ∈ ss, fine s) → PyData.canLayAll0 (ss.map sx) = true ∧ PyData.showableAll (ss.map sx) = true ∧ PyData.depthAll (ss.map sx) ≤ 1 ∧ PyData.intsShortAll 40 (ss.map sx) = true ∧ PyData.weightAll (ss.map sx) ≤ 501 * ss.length
  | [], _ => by simp [PyData.canLayAll0, PyData.showableAll, PyData.depthAll, PyData.intsShortAll, PyData.weightAll]
  | s :: ss, h => by
    obtain ⟨a1, a2, a3, a4, a5⟩ := row_facts ss fun t ht => h t (List.mem_cons_of_mem _ ht)
    obtain ⟨b1, b2, b3, b4, b5⟩ := sx_facts (h s List.mem_cons_self)
    refine ⟨by simp [PyData.canLayAll0, a1, b1], by simp [PyData.showableAll, a2, b2], by simp only [List.map_cons, PyData.depthAll]; omega, by simp [PyData.intsShortAll, a4, b4], ?_⟩
    simp only [List.map_cons, PyData.weightAll, List.length_cons]
    omega
theorem repr_row {ss : List Sx} (h : ∀ s ∈ ss, fine s) (hl : ss.length ≤ 100) : ∃ z, reprD (.list (ss.map sx)) = some (.str z) := by
  obtain ⟨a1, a2, a3, a4, a5⟩ := row_facts ss h
  have c1 : (PyData.list (ss.map sx)).canLay0 = true := by simpa [PyData.canLay0] using a1
  have hw : (PyData.list (ss.map sx)).weight ≤ 501 * ss.length := a5
  have hd := PyData.shown_le 40 (by decide) (.list (ss.map sx)) (PyData.leavesShort_of_canLay0 40 _ c1 (by simpa [PyData.intsShort] using a4))
  exact ⟨_, repr_ok (.inl ⟨_, rfl⟩) c1 (by simpa [PyData.showable] using a2) (by simp only [PyData.depth]; omega) (by omega)⟩
theorem repr_due {a b : List Sx} {n : Int} (ha : ∀ s ∈ a, fine s) (hb : ∀ s ∈ b, fine s) (la : a.length ≤ 100) (lb : b.length ≤ 100) (hn : n.natAbs < 2 ^ 90) : ∃ z, reprD (.tuple [.list (a.map sx), .int n, .list (b.map sx)]) = some (.str z) := by
  obtain ⟨a1, a2, a3, a4, a5⟩ := row_facts a ha
  obtain ⟨b1, b2, b3, b4, b5⟩ := row_facts b hb
  have wn := int_w hn
  have c1 : (PyData.tuple [.list (a.map sx), .int n, .list (b.map sx)]).canLay0 = true := by simp only [PyData.canLay0, PyData.canLayAll0, a1, b1, Bool.and_self]
  have hw : (PyData.tuple [.list (a.map sx), .int n, .list (b.map sx)]).weight ≤ 101000 := by
    have e1 : (PyData.list (a.map sx)).weight ≤ 501 * a.length := a5
    have e2 : (PyData.list (b.map sx)).weight ≤ 501 * b.length := b5
    show PyData.weightAll _ ≤ _
    simp only [PyData.weightAll]
    omega
  have hd := PyData.shown_le 40 (by decide) (.tuple [.list (a.map sx), .int n, .list (b.map sx)]) (PyData.leavesShort_of_canLay0 40 _ c1 (by simp only [PyData.intsShort, PyData.intsShortAll, a4, b4, int_short hn, decide_true, Bool.and_self]))
  exact ⟨_, repr_ok (.inr ⟨_, rfl⟩) c1 (by simp only [PyData.showable, PyData.showableAll, a2, b2, int_show hn, decide_true, Bool.and_self]) (by simp only [PyData.depth, PyData.depthAll]; omega) (by omega)⟩
end Lw
set_option Elab.async false
set_option linter.all false
set_option maxRecDepth 10000
set_option maxHeartbeats 4000000
namespace Lw
open PySem PySem.Spec PyProof.Rows DL L2

theorem okA_fold {B : Nat} : ∀ (ss : List Sx) (k : Nat) (acc : List Sx), (∀ s ∈ ss, okS B s) → okA B k acc → okA B (k + ss.length) (ss.foldl stepJ acc)
  | [], k, acc, _, h => h
  | s :: ss, k, acc, hs, h => by
    have := okA_fold ss (k + 1) (stepJ acc s) (fun t ht => hs t (List.mem_cons_of_mem _ ht)) (h.step (hs s List.mem_cons_self))
    rw [List.length_cons, show k + (ss.length + 1) = k + 1 + ss.length by omega]
    exact this
theorem okA_join {B : Nat} {ss : List Sx} (h : ∀ s ∈ ss, okS B s) : okA B ss.length (joinS ss) := by
  have := okA_fold ss 0 [] h .nil
  rw [Nat.zero_add] at this
  exact this
theorem step_all {P : Sx → Prop} (hadd : ∀ s t, P s → P t → P (addS s t)) {acc : List Sx} {t : Sx} (ha : ∀ s ∈ acc, P s) (ht : P t) : ∀ s ∈ stepJ acc t, P s := by
  intro s hs
  unfold stepJ at hs
  split at hs
  · rename_i l hl
    have hlm : l ∈ acc := List.mem_of_getLast? hl
    split at hs
    · rcases List.mem_append.mp hs with h | h
      · exact ha s (List.dropLast_subset _ h)
      · simp at h; subst h; exact hadd _ _ (ha l hlm) ht
    · rcases List.mem_append.mp hs with h | h
      · exact ha s h
      · simp at h; subst h; exact ht
  · simp at hs; subst hs; exact ht
theorem join_all {P : Sx → Prop} (hadd : ∀ s t, P s → P t → P (addS s t)) {ss : List Sx} (h : ∀ s ∈ ss, P s) : ∀ s ∈ joinS ss, P s := by
  have go : ∀ (ss acc : List Sx), (∀ s ∈ ss, P s) → (∀ s ∈ acc, P s) → ∀ s ∈ ss.foldl stepJ acc, P s := by
    intro ss
    induction ss with
    | nil => intro acc _ h; exact h
    | cons t ts ih => intro acc h1 h2; exact ih _ (fun s hs => h1 s (List.mem_cons_of_mem _ hs)) (step_all hadd h2 (h1 t List.mem_cons_self))
  exact go ss [] h (by simp)
abbrev BB : Nat := 100000000000000000
/-- what a stretch of a joined row keeps -/
structure keep (s : Sx) : Prop where
  w : wS 17 s.w
  f : s.f.natAbs ≤ 5000000000000000000
  y : s.y.natAbs ≤ 1
theorem keep_add (s t : Sx) (h : keep s) (_ : keep t) : keep (addS s t) := ⟨h.w, h.f, h.y⟩
theorem rok.keep {s : Sx} (h : rok s) : keep s := ⟨h.w, by have := h.f; omega, by rcases h.y with e | e <;> rw [e] <;> decide⟩
theorem rok.keepA {s : Sx} (h : rok s) : Lw.keep (aboutS s) := by
  have m0 := h.m0
  have m1 := h.m1
  have f := h.f
  refine ⟨h.w, ?_, ?_⟩
  · show (s.f + (s.m - 1) * s.y).natAbs ≤ _
    rcases h.y with e | e <;> rw [e] <;> omega
  · show (-s.y).natAbs ≤ 1
    rcases h.y with e | e <;> rw [e] <;> decide
theorem rok.okS {s : Sx} (h : rok s) : okS BB s := ⟨h.w.strOk, by have hb : BB = 100000000000000000 := rfl; have := h.m0; have := h.m1; omega, by rcases h.y with e | e <;> rw [e] <;> decide⟩
theorem fine_of {s : Sx} {B : Nat} (h : keep s) (k : okS B s) (hB : B < 2 ^ 80) : fine s := by
  have e : (2 : Nat) ^ 90 = 1237940039285380274899124224 := rfl
  have e2 : (2 : Nat) ^ 80 = 1208925819614629174706176 := rfl
  exact ⟨h.w.strOk, by rw [str_len]; have := h.w.len; omega, by have := h.f; omega, by have := k.m; omega, by have := h.y; omega⟩
theorem row_all {ss : List Sx} (h : ∀ s ∈ ss, rok s) (hl : ss.length ≤ 6) : (∀ s ∈ ss, fine s) ∧ (∀ s ∈ joinS ss, fine s ∧ okS (BB * 6) s) ∧ (∀ s ∈ turnS ss, fine s ∧ okS (BB * 6) s) ∧ (joinS ss).length ≤ 6 ∧ (turnS ss).length ≤ 6 := by
  have hB : BB * 6 < 2 ^ 80 := by decide
  have hB1 : BB < 2 ^ 80 := by decide
  have j1 := okA_join (fun s hs => (h s hs).okS)
  have habout : ∀ s ∈ ss.reverse.map aboutS, okS BB s ∧ keep s := by
    intro s hs
    obtain ⟨t, ht, rfl⟩ := List.mem_map.mp hs
    have ht' := h t (by simpa using ht)
    exact ⟨ht'.okS.about, ht'.keepA⟩
  have j2 := okA_join (fun s hs => (habout s hs).1)
  have jl : (ss.reverse.map aboutS).length = ss.length := by simp
  rw [jl] at j2
  have hmul : BB * ss.length ≤ BB * 6 := Nat.mul_le_mul_left _ hl
  refine ⟨fun s hs => fine_of (h s hs).keep (h s hs).okS hB1, fun s hs => ?_, fun s hs => ?_, Nat.le_trans j1.len hl, Nat.le_trans j2.len hl⟩
  · have o := (j1.ok s hs).mono hmul
    exact ⟨fine_of (join_all keep_add (fun s hs => (h s hs).keep) s hs) o hB, o⟩
  · have o := (j2.ok s hs).mono hmul
    exact ⟨fine_of (join_all keep_add (fun s hs => (habout s hs).2) s hs) o hB, o⟩
theorem sum_small : ∀ {ss : List Sx}, (∀ s ∈ ss, rok s) → (sumS ss).natAbs ≤ BB * ss.length
  | [], _ => by simp [sumS]
  | s :: ss, h => by
    have ih := sum_small fun t ht => h t (List.mem_cons_of_mem _ ht)
    have h0 := (h s List.mem_cons_self).m0
    have h1 := (h s List.mem_cons_self).m1
    have e : sumS (s :: ss) = s.m + sumS ss := by simp [sumS]
    have hb : BB = 100000000000000000 := rfl
    rw [e, List.length_cons, Nat.mul_succ]
    omega
theorem shaped_row {ss : List Sx} (h : ∀ s ∈ ss, fine s) : SeqAt.shaped (.list (ss.map sx)) = true := by
  obtain ⟨a1, _, a3, _, _⟩ := row_facts ss h
  have : (PyData.list (ss.map sx)).depth ≤ 64 := by simp only [PyData.depth]; omega
  simp only [SeqAt.shaped, PyData.canLay0, a1, this, decide_true, Bool.and_self]
theorem ne_row {ss : List Sx} (h : ∀ s ∈ ss, fine s) : neD (.list (ss.map sx)) (.list (ss.map sx)) = some (.bool false) := by
  have hs := shaped_row h
  have he := PySem.SeqAt.eqv_refl (.list (ss.map sx)) (SeqAt.canLay_of_shaped hs)
  simp only [neD, hs, and_self, if_true, he, Bool.not_true]
end Lw
set_option Elab.async false
set_option linter.all false
set_option maxRecDepth 10000
set_option maxHeartbeats 4000000
namespace Lw
open PySem PySem.Spec PyProof.Rows DL L2

/-! ### turned twice -/
def ra (ss : List Sx) : List Sx := ss.reverse.map aboutS
theorem about_about (s : Sx) : aboutS (aboutS s) = s := by
  obtain ⟨w, f, m, y⟩ := s
  simp only [aboutS, Sx.mk.injEq, true_and, Int.neg_neg, and_true]
  rw [Int.mul_neg]
  omega
theorem ra_ra (ss : List Sx) : ra (ra ss) = ss := by
  unfold ra
  rw [← List.map_reverse, List.reverse_reverse, List.map_map]
  have : (aboutS ∘ aboutS) = id := funext about_about
  rw [this, List.map_id]
theorem goes_iff (s t : Sx) : goesB s t = true ↔ t.w = s.w ∧ t.f = s.f + s.m * s.y ∧ t.y = s.y := by
  unfold goesB
  simp
theorem goes_about (s t : Sx) : goesB (aboutS t) (aboutS s) = goesB s t := by
  rw [Bool.eq_iff_iff, goes_iff, goes_iff]
  simp only [aboutS]
  have e1 : (s.m - 1) * s.y = s.m * s.y - s.y := by rw [Int.sub_mul]; omega
  have e2 : (t.m - 1) * t.y = t.m * t.y - t.y := by rw [Int.sub_mul]; omega
  have e3 : t.m * -t.y = -(t.m * t.y) := Int.mul_neg _ _
  rw [e1, e2, e3]
  constructor
  · rintro ⟨h1, h2, h3⟩
    exact ⟨h1.symm, by omega, by omega⟩
  · rintro ⟨h1, h2, h3⟩
    exact ⟨h1.symm, by rw [h3] at *; omega, by omega⟩
theorem add_about {s t : Sx} (h : goesB s t = true) : aboutS (addS s t) = addS (aboutS t) (aboutS s) := by
  rw [goes_iff] at h
  obtain ⟨h1, h2, h3⟩ := h
  obtain ⟨w, f, m, y⟩ := s
  obtain ⟨w', f', m', y'⟩ := t
  simp only at h1 h2 h3
  subst h1 h2 h3
  simp only [aboutS, addS, Sx.mk.injEq, true_and, and_true]
  refine ⟨?_, by omega⟩
  have e1 : (m + m' - 1) * y' = m * y' + (m' - 1) * y' := by
    rw [show m + m' - 1 = m + (m' - 1) by omega, Int.add_mul]
  rw [e1]
  omega
/-- two rows in their one form, one behind the other -/
def catS (a b : List Sx) : List Sx := match a.getLast?, b with
  | some s, t :: r => if goesB s t then a.dropLast ++ addS s t :: r else a ++ b
  | _, _ => a ++ b
theorem catS_nil (a : List Sx) : catS a [] = a := by
  unfold catS
  split
  · rename_i h; cases h
  · simp
theorem nil_catS (b : List Sx) : catS [] b = b := by simp [catS]
theorem catS_last (l : List Sx) (s t : Sx) (r : List Sx) : catS (l ++ [s]) (t :: r) = if goesB s t then l ++ addS s t :: r else l ++ s :: t :: r := by
  simp [catS]
theorem step_cat (acc : List Sx) (t : Sx) : stepJ acc t = catS acc [t] := by
  rcases List.eq_nil_or_concat acc with rfl | ⟨l, s, rfl⟩
  · rfl
  · rw [List.concat_eq_append, stepJ_last, catS_last]
    simp
theorem goes_add {s t u : Sx} (h : goesB s t = true) : goesB (addS s t) u = goesB t u := by
  rw [Bool.eq_iff_iff, goes_iff, goes_iff]
  rw [goes_iff] at h
  obtain ⟨h1, h2, h3⟩ := h
  simp only [addS]
  rw [h1, h2, h3, Int.add_mul]
  constructor <;> rintro ⟨a, b, c⟩ <;> exact ⟨a, by omega, c⟩
theorem goes_add' {s t u : Sx} (h : goesB t u = true) : goesB s (addS t u) = goesB s t := by
  rw [Bool.eq_iff_iff, goes_iff, goes_iff]
  simp only [addS]
theorem add_assoc' (s t u : Sx) : addS (addS s t) u = addS s (addS t u) := by
  simp only [addS, Sx.mk.injEq, true_and, and_true]
  omega
theorem catS_assoc1 (s : Sx) (b : List Sx) (t : Sx) : catS (catS [s] b) [t] = catS [s] (catS b [t]) := by
  cases b with
  | nil => rw [catS_nil, nil_catS]
  | cons u r =>
    have e1 : ∀ (z : Sx) (q : List Sx), catS [s] (z :: q) = if goesB s z then addS s z :: q else s :: z :: q := fun z q => by
      have := catS_last [] s z q
      simpa using this
    rcases List.eq_nil_or_concat r with rfl | ⟨l, v, rfl⟩
    · have e2 : ∀ z : Sx, catS [z] [t] = if goesB z t then [addS z t] else [z, t] := fun z => by
        have := catS_last [] z t []
        simpa using this
      rw [e1, e2]
      cases h1 : goesB s u with
      | true =>
        simp only [if_true]
        rw [e2, goes_add h1]
        cases h2 : goesB u t with
        | true => simp only [if_true]; rw [e1, goes_add' h2, h1, if_pos rfl, add_assoc']
        | false => simp only [Bool.false_eq_true, if_false]; rw [e1, h1, if_pos rfl]
      | false =>
        simp only [Bool.false_eq_true, if_false]
        have e3 : catS [s, u] [t] = if goesB u t then [s, addS u t] else [s, u, t] := by
          have := catS_last [s] u t []
          simpa using this
        rw [e3]
        cases h2 : goesB u t with
        | true => simp only [if_true]; rw [e1, goes_add' h2, h1]; rfl
        | false => simp only [Bool.false_eq_true, if_false]; rw [e1, h1]; rfl
    · rw [List.concat_eq_append]
      have e2 : ∀ (q : List Sx), catS (q ++ [v]) [t] = if goesB v t then q ++ [addS v t] else q ++ [v, t] := fun q => by
        have := catS_last q v t []
        simpa using this
      have e3 : catS (u :: (l ++ [v])) [t] = if goesB v t then u :: (l ++ [addS v t]) else u :: (l ++ [v, t]) := by
        have := e2 (u :: l)
        simpa using this
      rw [e3, e1]
      cases h1 : goesB s u with
      | true =>
        simp only [if_true]
        have e4 : catS (addS s u :: (l ++ [v])) [t] = if goesB v t then addS s u :: (l ++ [addS v t]) else addS s u :: (l ++ [v, t]) := by
          have := e2 (addS s u :: l)
          simpa using this
        rw [e4]
        cases goesB v t <;> simp [e1, h1]
      | false =>
        simp only [Bool.false_eq_true, if_false]
        have e4 : catS (s :: u :: (l ++ [v])) [t] = if goesB v t then s :: u :: (l ++ [addS v t]) else s :: u :: (l ++ [v, t]) := by
          have := e2 (s :: u :: l)
          simpa using this
        rw [e4]
        cases goesB v t <;> simp [e1, h1]
theorem rev_ind {P : List Sx → Prop} (h0 : P []) (h1 : ∀ l a, P l → P (l ++ [a])) : ∀ l, P l := by
  intro l
  have : ∀ n (l : List Sx), l.length = n → P l := by
    intro n
    induction n with
    | zero => intro l hl; rw [List.eq_nil_of_length_eq_zero hl]; exact h0
    | succ n ih =>
      intro l hl
      rcases List.eq_nil_or_concat l with rfl | ⟨q, a, rfl⟩
      · simp at hl
      · rw [List.concat_eq_append] at hl ⊢
        exact h1 q a (ih q (by simpa using hl))
  exact this _ l rfl
theorem joinS_snoc (xs : List Sx) (t : Sx) : joinS (xs ++ [t]) = catS (joinS xs) [t] := by
  unfold joinS
  rw [List.foldl_append, List.foldl_cons, List.foldl_nil, step_cat]
theorem joinS_cons (s : Sx) : ∀ xs : List Sx, joinS (s :: xs) = catS [s] (joinS xs) := by
  refine rev_ind ?_ fun l a ih => ?_
  · show joinS [s] = catS [s] []
    rw [catS_nil]; rfl
  · rw [← List.cons_append, joinS_snoc, ih, joinS_snoc, catS_assoc1]
theorem ra_append (a b : List Sx) : ra (a ++ b) = ra b ++ ra a := by simp [ra]
theorem ra_cat (a : List Sx) (t : Sx) : ra (catS a [t]) = catS [aboutS t] (ra a) := by
  rcases List.eq_nil_or_concat a with rfl | ⟨l, s, rfl⟩
  · simp [ra, catS]
  · rw [List.concat_eq_append, catS_last]
    have e1 : ∀ (z : Sx) (q : List Sx), catS [aboutS t] (z :: q) = if goesB (aboutS t) z then addS (aboutS t) z :: q else aboutS t :: z :: q := fun z q => by
      have := catS_last [] (aboutS t) z q
      simpa using this
    have e2 : ra (l ++ [s]) = aboutS s :: ra l := by simp [ra]
    rw [e2, e1, goes_about]
    cases h : goesB s t with
    | true => simp only [if_true]; rw [show l ++ [addS s t] = l ++ [addS s t] from rfl, ra_append]; simp [ra, add_about h]
    | false => simp only [Bool.false_eq_true, if_false]; simp [ra]
theorem join_ra : ∀ xs : List Sx, joinS (ra xs) = ra (joinS xs) := by
  refine rev_ind rfl fun l a ih => ?_
  have e : ra (l ++ [a]) = aboutS a :: ra l := by simp [ra]
  rw [e, joinS_cons, ih, joinS_snoc, ra_cat]
/-- no stretch goes on the one ahead -/
def OneF : List Sx → Prop
  | s :: t :: r => goesB s t = false ∧ OneF (t :: r)
  | _ => True
theorem oneF_snoc : ∀ (l : List Sx) (s t : Sx), OneF (l ++ [s]) → goesB s t = false → OneF (l ++ [s, t])
  | [], s, t, _, h => ⟨h, trivial⟩
  | [a], s, t, h0, h => ⟨h0.1, h, trivial⟩
  | a :: b :: l, s, t, h0, h => ⟨h0.1, oneF_snoc (b :: l) s t h0.2 h⟩
theorem oneF_add : ∀ (l : List Sx) (s t : Sx), OneF (l ++ [s]) → goesB s t = true → OneF (l ++ [addS s t])
  | [], s, t, _, _ => trivial
  | [a], s, t, h0, h => ⟨by rw [goes_add' h]; exact h0.1, trivial⟩
  | a :: b :: l, s, t, h0, h => ⟨h0.1, oneF_add (b :: l) s t h0.2 h⟩
theorem oneF_cat (a : List Sx) (t : Sx) (h : OneF a) : OneF (catS a [t]) := by
  rcases List.eq_nil_or_concat a with rfl | ⟨l, s, rfl⟩
  · exact trivial
  · rw [List.concat_eq_append] at h ⊢
    rw [catS_last]
    cases hg : goesB s t with
    | true => exact oneF_add l s t h hg
    | false => exact oneF_snoc l s t h hg
theorem oneF_join : ∀ xs : List Sx, OneF (joinS xs) := by
  refine rev_ind trivial fun l a ih => ?_
  rw [joinS_snoc]
  exact oneF_cat _ _ ih
theorem cat_oneF : ∀ (l : List Sx) (s : Sx), OneF (s :: l) → catS [s] l = s :: l
  | [], s, _ => catS_nil _
  | t :: r, s, h => by
    have := catS_last [] s t r
    simp only [List.nil_append] at this
    rw [this, h.1]; rfl
theorem join_oneF : ∀ l : List Sx, OneF l → joinS l = l
  | [], _ => rfl
  | [s], _ => rfl
  | s :: t :: r, h => by rw [joinS_cons, join_oneF (t :: r) h.2]; exact cat_oneF _ _ h
theorem turn_turn (ss : List Sx) : turnS (turnS ss) = joinS ss := by
  show joinS (ra (joinS (ra ss))) = joinS ss
  rw [join_ra ss, ra_ra]
  exact join_oneF _ (oneF_join ss)
end Lw
set_option Elab.async false
set_option linter.all false
set_option maxRecDepth 10000
set_option maxHeartbeats 4000000
namespace Lw
open PySem PySem.Spec PyProof.Rows DL L2

noncomputable abbrev condI : MB := (bOr (bOf (eBinF neD (eCB (c1F reprD) (aCons (eVar 10) aNil)) (eCB (c1F reprD) (aCons (eVar 9) aNil)))) (bOr (bOf (eBinF neD (eCB (c1F reprD) (aCons (eCB (c1 listD) (aCons (eVar 8) aNil)) aNil)) (eCB (c1F reprD) (aCons (eVar 4) aNil)))) (bOf (eBinF neD (eFrz (eCall m_turned (aCons (eIxT (eVar 10) 2) aNil))) (eIxT (eVar 10) 0)))))
noncomputable abbrev bodyI : MS := (sSeq (sSet 10 (eTupT (aCons (eCall m_joined (aCons (eVar 8) aNil)) (aCons (eCall m_yards (aCons (eVar 8) aNil)) (aCons (eCall m_turned (aCons (eVar 8) aNil)) aNil)))))
    (sSeq (sIf condI (sRet (eC (.bool false))) sNil)
    (sSeq (sEx (eApp (eIxT (eVar 10) 0) (eC .none)))
    (sEx (eApp (eIxT (eVar 10) 2) (eC .none))))))
abbrev lEnv (a0 a1 a2 a3 : Option EV) (row : PyData) (a5 a6 a7 : Option EV) (hv : PyData) (due : PyData) (a10 a11 : Option EV) : Env' := [a0, a1, a2, a3, some (.d row), a5, a6, a7, some (.d hv), some (.d due), a10, a11]
def dueD (ss : List Sx) : PyData := .tuple [.list ((joinS ss).map sx), .int (sumS ss), .list ((turnS ss).map sx)]
theorem b_inner {ss : List Sx} {a0 a1 a2 a3 a5 a6 a7 a10 a11 : Option EV} {hv : PyData} (m : Mem) (h : ∀ s ∈ ss, rok s) (hl : ss.length ≤ 6) (hh : hv = .list (ss.map sx) ∨ hv = .tuple (ss.map sx)) :
    ∃ b10 J T, bodyI (lEnv a0 a1 a2 a3 (.list (ss.map sx)) a5 a6 a7 hv (dueD ss) a10 a11) m = some (.nx (lEnv a0 a1 a2 a3 (.list (ss.map sx)) a5 a6 a7 hv (dueD ss) b10 a11), m ++ [J] ++ [T]) := by
  have hz := sizeLine_eq
  obtain ⟨fr, fj, ft, lj, lt⟩ := row_all h hl
  have src : ∀ m : Mem, Src (.d hv) m (ss.map sx) := fun m => by rcases hh with rfl | rfl <;> simp [Src]
  have ok : ∀ s ∈ ss, okS BB s := fun s hs => (h s hs).okS
  have hB : BB * 1001 < 2 ^ 70 := by decide
  obtain ⟨J, hJ⟩ : ∃ J, J = (joinS ss).map sx := ⟨_, rfl⟩
  obtain ⟨T, hT⟩ : ∃ T, T = (turnS ss).map sx := ⟨_, rfl⟩
  have e1 : m_joined [.d hv] m = some (.l m.length, m ++ [.lst J]) := by rw [hJ]; exact r_joined (src m) ok (by omega) hB
  have e2 : m_yards [.d hv] (m ++ [.lst J]) = some (.d (.int (sumS ss)), m ++ [.lst J]) := r_yards (src _) (by omega)
  have e3 : m_turned [.d hv] (m ++ [.lst J]) = some (.l (m.length + 1), m ++ [.lst J] ++ [.lst T]) := by
    have := r_turned (x := .d hv) (m := m ++ [.lst J]) (src _) ok (by omega) hB
    rw [this, hT]
    simp
  obtain ⟨M, hM⟩ : ∃ M, M = m ++ [MO.lst J] ++ [MO.lst T] := ⟨_, rfl⟩
  have g1 : M[m.length]? = some (.lst J) := by rw [hM]; simp
  have g2 : M[m.length + 1]? = some (.lst T) := by rw [hM]; simp
  have hML : M.length = m.length + 2 := by rw [hM]; simp
  obtain ⟨ev, hev⟩ : ∃ ev : EV, ev = .t [.l m.length, .d (.int (sumS ss)), .l (m.length + 1)] := ⟨_, rfl⟩
  have hset : (eTupT (aCons (eCall m_joined (aCons (eVar 8) aNil)) (aCons (eCall m_yards (aCons (eVar 8) aNil)) (aCons (eCall m_turned (aCons (eVar 8) aNil)) aNil)))) (lEnv a0 a1 a2 a3 (.list (ss.map sx)) a5 a6 a7 hv (dueD ss) a10 a11) m = some (ev, M) := by
    rw [hev, hM]
    simp [lEnv, eTupT, aCons, aNil, eCall, eVar, e1, e2, e3, hz]
  have v0 : vwF M ev = some (dueD ss) := by
    rw [hev, dueD, ← hJ, ← hT]
    simp [vwF, vwFs, vw, g1, g2]
  obtain ⟨z1, hz1⟩ := repr_due (fun s hs => (fj s hs).1) (fun s hs => (ft s hs).1) (by omega) (by omega) (n := sumS ss) (by
    have := sum_small h
    have hb : BB = 100000000000000000 := rfl
    have hmul : BB * ss.length ≤ BB * 6 := Nat.mul_le_mul_left _ hl
    have E : (2 : Nat) ^ 90 = 1237940039285380274899124224 := rfl
    omega)
  have hz1' : reprD (dueD ss) = some (.str z1) := hz1
  obtain ⟨z2, hz2⟩ := repr_row fr (by omega)
  have hlist : listD hv = some (.list (ss.map sx)) := by rcases hh with rfl | rfl <;> rfl
  have hturn : m_turned [.l (m.length + 1)] M = some (.l (m.length + 2), M ++ [.lst J]) := by
    have := r_turned (x := .l (m.length + 1)) (m := M) (ss := turnS ss) (B := BB * 6) (.inr (.inr ⟨_, rfl, by rw [g2, hT]⟩)) (fun s hs => (ft s hs).2) (by omega) (by decide)
    rw [this, turn_turn, hML, hJ]
  have hne : neD (.list J) (.list J) = some (.bool false) := by rw [hJ]; exact ne_row fun s hs => (fj s hs).1
  have hcond : ∀ a10 : Option EV, a10 = some ev → condI (lEnv a0 a1 a2 a3 (.list (ss.map sx)) a5 a6 a7 hv (dueD ss) a10 a11) M = some (false, M) := by
    rintro _ rfl
    have cc1 : bOf (eBinF neD (eCB (c1F reprD) (aCons (eVar 10) aNil)) (eCB (c1F reprD) (aCons (eVar 9) aNil))) (lEnv a0 a1 a2 a3 (.list (ss.map sx)) a5 a6 a7 hv (dueD ss) (some ev) a11) M = some (false, M) := by
      simp [lEnv, bOf, eBinF, eCB, c1F, aCons, aNil, eVar, v0, hz1', vwF, vw, neD_str]
    have cc2 : bOf (eBinF neD (eCB (c1F reprD) (aCons (eCB (c1 listD) (aCons (eVar 8) aNil)) aNil)) (eCB (c1F reprD) (aCons (eVar 4) aNil))) (lEnv a0 a1 a2 a3 (.list (ss.map sx)) a5 a6 a7 hv (dueD ss) (some ev) a11) M = some (false, M) := by
      simp [lEnv, bOf, eBinF, eCB, c1F, c1, aCons, aNil, eVar, hlist, hz2, vwF, vw, neD_str]
    have cc3 : bOf (eBinF neD (eFrz (eCall m_turned (aCons (eIxT (eVar 10) 2) aNil))) (eIxT (eVar 10) 0)) (lEnv a0 a1 a2 a3 (.list (ss.map sx)) a5 a6 a7 hv (dueD ss) (some ev) a11) M = some (false, M) := by
      have hf : eFrz (eCall m_turned (aCons (eIxT (eVar 10) 2) aNil)) (lEnv a0 a1 a2 a3 (.list (ss.map sx)) a5 a6 a7 hv (dueD ss) (some ev) a11) M = some (.d (.list J), M) := by
        have hcall : eCall m_turned (aCons (eIxT (eVar 10) 2) aNil) (lEnv a0 a1 a2 a3 (.list (ss.map sx)) a5 a6 a7 hv (dueD ss) (some ev) a11) M = some (.l M.length, M ++ [.lst J]) := by
          rw [hML, ← hturn, hev]
          simp [lEnv, eCall, aCons, aNil, eIxT, eVar]
        simp [eFrz, hcall, vw]
      have hx : eIxT (eVar 10) 0 (lEnv a0 a1 a2 a3 (.list (ss.map sx)) a5 a6 a7 hv (dueD ss) (some ev) a11) M = some (.l m.length, M) := by
        rw [hev]; simp [lEnv, eIxT, eVar]
      simp only [bOf, eBinF, hf, hx]
      simp [vwF, vw, g1, hne]
    simp only [condI, bOr, cc1, cc2, cc3]
  refine ⟨some ev, .lst (J ++ [.none]), .lst (T ++ [.none]), ?_⟩
  refine (seq_nx (set_k hset)).trans ?_
  refine (seq_nx (e1 := lEnv a0 a1 a2 a3 (.list (ss.map sx)) a5 a6 a7 hv (dueD ss) (some ev) a11) (m1 := M) ((if_f (hcond _ rfl)).trans rfl)).trans ?_
  have lJ : J.length < 16777216 := by rw [hJ, List.length_map]; omega
  have lT : T.length < 16777216 := by rw [hT, List.length_map]; omega
  refine (seq_nx (e1 := lEnv a0 a1 a2 a3 (.list (ss.map sx)) a5 a6 a7 hv (dueD ss) (some ev) a11) (m1 := m ++ [.lst (J ++ [.none])] ++ [.lst T]) ?_).trans ?_
  · rw [hev]
    simp [lEnv, sEx, eApp, eIxT, eVar, eC, g1, hz, lJ]
    rw [hM]
    simp
  · rw [hev]
    simp [lEnv, sEx, eApp, eIxT, eVar, eC, hz, lT]
end Lw
set_option Elab.async false
set_option linter.all false
set_option maxRecDepth 10000
set_option maxHeartbeats 4000000
namespace Lw
open PySem PySem.Spec PyProof.Rows DL L2

noncomputable abbrev bodyT : MS := (sSeq (sSet 4 (eFrz (eCall m__law_long_row (aCons (eVar 1) (aCons (eVar 2) (aCons (eC (.int 6)) aNil))))))
    (sSeq (sSet 5 (eCall m__law_pick (aCons (eVar 1) (aCons (eBin addD (eBin addD (eLst (aCons (eVar 4) (aCons (eCB (c1 tupleD) (aCons (eVar 4) aNil)) (aCons (eCall (m__law_anything fuel__law_anything) (aCons (eVar 1) (aCons (eC (.int 2)) aNil))) aNil)))) (eSl (eVar 4) oNo (oYes (eC (.int 1))))) (eSl (eVar 4) (oYes (eC (.int 1))) (oYes (eC (.int 2))))) aNil))))
    (sSeq (sFor (iRg1 (eCall m__law_draw (aCons (eVar 1) (aCons (eC (.int 3)) aNil)))) (gNm 6) (sSet 5 (eCall (m__law_bent fuel__law_bent) (aCons (eVar 1) (aCons (eVar 5) aNil)))))
    (sSeq (sSet 7 (eTup (aCons (eCall m_is_row (aCons (eVar 5) aNil)) (aCons (eCall m_is_stretch (aCons (eVar 5) aNil)) (aCons (eCall m_is_word (aCons (eVar 5) aNil)) aNil)))))
    (sSeq (sIf (bOf (eBinF neD (eCB (c1F reprD) (aCons (eVar 7) aNil)) (eCB (c1F reprD) (aCons (eTup (aCons (eCall m__law_is_row (aCons (eVar 5) aNil)) (aCons (eCall m__law_is_yards (aCons (eVar 5) aNil)) (aCons (eCall m__law_is_word (aCons (eVar 5) aNil)) aNil)))) aNil)))) (sRet (eC (.bool false))) sNil)
    (sSeq (sSet 8 (eCall m__law_pick (aCons (eVar 1) (aCons (eLst (aCons (eVar 4) (aCons (eCB (c1 tupleD) (aCons (eVar 4) aNil)) aNil))) aNil))))
    (sSeq (sSet 9 (eTup (aCons (eFrz (eCall m__law_joined (aCons (eVar 4) aNil))) (aCons (eCB (c1 sumD) (aCons (eFrz (eLc (iAny (eVar 4)) (gNm 11) cYes (eBin ixD (eVar 11) (eC (.int 2))) [11])) aNil)) (aCons (eFrz (eCall m__law_turned (aCons (eVar 4) aNil))) aNil)))))
    (sFor (iRg1 (eC (.int 2))) (gNm 6) (sSeq (sSet 10 (eTupT (aCons (eCall m_joined (aCons (eVar 8) aNil)) (aCons (eCall m_yards (aCons (eVar 8) aNil)) (aCons (eCall m_turned (aCons (eVar 8) aNil)) aNil)))))
    (sSeq (sIf (bOr (bOf (eBinF neD (eCB (c1F reprD) (aCons (eVar 10) aNil)) (eCB (c1F reprD) (aCons (eVar 9) aNil)))) (bOr (bOf (eBinF neD (eCB (c1F reprD) (aCons (eCB (c1 listD) (aCons (eVar 8) aNil)) aNil)) (eCB (c1F reprD) (aCons (eVar 4) aNil)))) (bOf (eBinF neD (eFrz (eCall m_turned (aCons (eIxT (eVar 10) 2) aNil))) (eIxT (eVar 10) 0))))) (sRet (eC (.bool false))) sNil)
    (sSeq (sEx (eApp (eIxT (eVar 10) 0) (eC .none)))
    (sEx (eApp (eIxT (eVar 10) 2) (eC .none))))))))))))))
theorem mem_any {rows : List PyData} {x th : PyData} (hr : rows.length ≤ 6) (hg : ∀ y ∈ rows, gd 64 1 y) (hx : gd 64 3 x) (h : th ∈ [PyData.list rows, .tuple rows, x] ++ DL.cutD rows none (some 1) ++ DL.cutD rows (some 1) (some 2)) : gd 64 3 th := by
  have g2 : ∀ y ∈ rows, gd 64 2 y := fun y hy => gd_mono (hg y hy) (Nat.le_refl _) (by decide)
  rcases List.mem_append.mp h with h | h
  · rcases List.mem_append.mp h with h | h
    · simp only [List.mem_cons, List.not_mem_nil, or_false] at h
      rcases h with rfl | rfl | rfl
      · exact ⟨by omega, g2⟩
      · exact ⟨by omega, g2⟩
      · exact hx
    · exact gd_mono (hg _ (mem_cut h)) (Nat.le_refl _) (by decide)
  · exact gd_mono (hg _ (mem_cut h)) (Nat.le_refl _) (by decide)
theorem r_bends {n d : Nat} {th : PyData} {q : Pen} {R : Mem} {e0 : Env'} (a6 : Option EV) (mk : EV → Option EV → Env') (hmk1 : ∀ t a, (mk t a)[1]? = some (some (.l 0))) (hmk5 : ∀ t a, (mk t a)[5]? = some (some t)) (hset5 : ∀ t a u, (mk t a).set 5 (some u) = mk u a) (hset6 : ∀ t a u, (mk t a).set 6 u = mk t u) (hd : d ≤ 2) (hth : gd 64 3 th) (hq : okP n q) (hn : n ≤ 500000000) :
    ∃ th' q' a6', gd 1000 7 th' ∧ okP (n + 600) q' ∧ forL (gNm 6) (sSet 5 (eCall (m__law_bent fuel__law_bent) (aCons (eVar 1) (aCons (eVar 5) aNil)))) noC (rgL 0 d) (mk (.d th) a6) (penO q :: R) = some (.nx (mk (.d th') a6'), penO q' :: R) := by
  obtain ⟨e', m', h1, c, t, q', a, rfl, rfl, hc, hg, hq'⟩ := for_ind (g := gNm 6) (b := sSet 5 (eCall (m__law_bent fuel__law_bent) (aCons (eVar 1) (aCons (eVar 5) aNil)))) (C := noC)
    (fun xs e m => ∃ (c : Nat) (t : PyData) (q : Pen) (a : Option EV), e = mk (.d t) a ∧ m = penO q :: R ∧ c + xs.length ≤ 2 ∧ gd (64 * 3 ^ c) (3 + 2 * c) t ∧ okP (n + 300 * c) q) (by
      rintro x xs e m ⟨c, t, q, a, rfl, rfl, hc, hg, hq⟩
      simp only [List.length_cons] at hc
      have hN : 64 * 3 ^ c ≤ 192 := by
        have : 3 ^ c ≤ 3 ^ 1 := Nat.pow_le_pow_right (by decide) (by omega)
        omega
      have hN0 : 1 ≤ 3 ^ c := Nat.one_le_pow _ _ (by decide)
      obtain ⟨y, q2, y1, y2, y3⟩ := r_bent (3 + 2 * c) fuel__law_bent (n + 300 * c) (64 * 3 ^ c) t q R (by show _ < 12; omega) (by omega) (by omega) hg hq (by omega)
      refine ⟨trivial, mk (.d t) (some x), by simp [gNm, hset6], mk (.d y) (some x), penO q2 :: R, ?_, c + 1, y, q2, some x, rfl, rfl, by omega, ?_, y2.mono (by omega)⟩
      · have hh := set_k (i := 5) (f := eCall (m__law_bent fuel__law_bent) (aCons (eVar 1) (aCons (eVar 5) aNil))) (e := mk (.d t) (some x)) (v := .d y) (m := penO q :: R) (m1 := penO q2 :: R) (by simp [eCall, aCons, aNil, eVar, hmk1, hmk5, y3])
        rw [hset5] at hh
        exact hh
      · refine gd_mono y1 (by rw [Nat.pow_succ]; omega) (by omega)) (fun _ _ _ => trivial) (rgL 0 d) (mk (.d th) a6) (penO q :: R) ⟨0, th, q, a6, rfl, rfl, by rw [rgL_len]; omega, hth, by simpa using hq⟩
  simp only [List.length_nil, Nat.add_zero] at hc
  have hN : 64 * 3 ^ c ≤ 576 := by
    have : 3 ^ c ≤ 3 ^ 2 := Nat.pow_le_pow_right (by decide) (by omega)
    omega
  exact ⟨t, q', a, gd_mono hg (by omega) (by omega), hq'.mono (by omega), h1⟩
end Lw
set_option Elab.async false
set_option linter.all false
set_option maxRecDepth 10000
set_option maxHeartbeats 4000000
namespace Lw
open PySem PySem.Spec PyProof.Rows DL L2

theorem frz_last {f : ME} {e : Env'} {o o' : MO} {R : Mem} {xs : List PyData} (h : f e (o :: R) = some (.l (R.length + 1), o' :: (R ++ [.lst xs]))) : eFrz f e (o :: R) = some (.d (.list xs), o' :: R) := by
  simp [eFrz, h, vw]
theorem frz_lastM {f : ME} {e : Env'} {m : Mem} {xs : List PyData} (h : f e m = some (.l m.length, m ++ [.lst xs])) : eFrz f e m = some (.d (.list xs), m) := by
  simp [eFrz, h, vw]
theorem b_turn {j : Nat} {ws : List PyData} {q : Pen} {R : Mem} {a0 a3 a4 a5 a6 a7 a8 a9 a10 a11 : Option EV} (hw : ∀ y ∈ ws, wP y) (hw0 : ws ≠ []) (hwl : ws.length ≤ 1000) (hq : okP j q) (hj : j ≤ 100000000) :
    ∃ q' R' b4 b5 b6 b7 b8 b9 b10 b11, okP (j + 2000) q' ∧ bodyT [a0, some (.l 0), some (.d (.list ws)), a3, a4, a5, a6, a7, a8, a9, a10, a11] (penO q :: R) = some (.nx [a0, some (.l 0), some (.d (.list ws)), a3, b4, b5, b6, b7, b8, b9, b10, b11], penO q' :: R') := by
  have hz := sizeLine_eq
  obtain ⟨ss, q1, hl, hr, hq1, e1⟩ := r_long_row q R hw hw0 hwl hq (by omega)
  obtain ⟨rows, hrows⟩ : ∃ rows, rows = ss.map sx := ⟨_, rfl⟩
  rw [← hrows] at e1
  have hrl : rows.length = ss.length := by rw [hrows, List.length_map]
  have hgr : ∀ y ∈ rows, gd 64 1 y := by
    intro y hy
    rw [hrows] at hy
    obtain ⟨s, hs, rfl⟩ := List.mem_map.mp hy
    exact (hr s hs).gd
  obtain ⟨x, q2, hx, hq2, e2⟩ := r_anything 2 fuel__law_anything (j + 400) q1 R (by decide) (by decide) hq1 (by omega)
  have hc2 : costA 2 = 26 := rfl
  have e2' : m__law_anything fuel__law_anything [.l 0, .d (.int 2)] (penO q1 :: R) = some (.d x, penO q2 :: R) := e2
  obtain ⟨th, q3, hth, hq3, e3⟩ := r_pick (xs := [PyData.list rows, .tuple rows, x] ++ DL.cutD rows none (some 1) ++ DL.cutD rows (some 1) (some 2)) q2 R hq2 (by omega) (by simp) (by
    have := len_cut rows none (some 1)
    have := len_cut rows (some 1) (some 2)
    simp only [List.length_append, List.length_cons, List.length_nil]
    omega)
  have gth := mem_any (by omega) hgr hx hth
  obtain ⟨d, q4, d0, d1, hq4, e4⟩ := r_draw (k := 3) q3 R hq3 (by omega) (by decide) (by decide)
  obtain ⟨th', q5, a6', gth', hq5, e5⟩ := r_bends (n := j + 400 + costA 2 + 1 + 1) (d := d.toNat) (R := R) (e0 := []) a6 (fun t a => [a0, some (.l 0), some (.d (.list ws)), a3, some (.d (.list rows)), some t, a, a7, a8, a9, a10, a11]) (fun _ _ => rfl) (fun _ _ => rfl) (fun _ _ _ => rfl) (fun _ _ _ => rfl) (by omega) gth hq4 (by omega)
  have i1 := fun m => r_is_row m gth' (by decide)
  have i2 := fun m => r_is_stretch m gth' (by decide)
  have i3 := fun m => r_is_word m gth' (by decide)
  have k1 := fun m => r_law_is_row m gth' (by decide)
  have k2 := fun m => r_law_is_yards m gth' (by decide)
  have k3 := fun m => r_law_is_word m gth' (by decide)
  obtain ⟨z, hzr⟩ := repr_bools (rowB th') (stretchB th') (wordB th')
  obtain ⟨hv, q6, hhv, hq6, e6⟩ := r_pick (xs := [PyData.list rows, .tuple rows]) q5 R hq5 (by omega) (by simp) (by simp)
  have hhv' : hv = .list (ss.map sx) ∨ hv = .tuple (ss.map sx) := by rw [← hrows]; simpa using hhv
  have ok : ∀ s ∈ ss, okS BB s := fun s hs => (hr s hs).okS
  have hB : BB * 1001 < 2 ^ 70 := by decide
  obtain ⟨M, hM⟩ : ∃ M, M = penO q6 :: R := ⟨_, rfl⟩
  have j1 : m__law_joined [.d (.list rows)] M = some (.l M.length, M ++ [.lst ((joinS ss).map sx)]) := by rw [hrows]; exact r_law_joined (src_list _ _) ok (by omega) hB
  have j2 : m__law_turned [.d (.list rows)] M = some (.l M.length, M ++ [.lst ((turnS ss).map sx)]) := by rw [hrows]; exact r_law_turned ok (by omega) hB
  -- go
  have inner := for_ind (g := gNm 6) (b := bodyI) (C := noC)
    (fun xs e m => ∃ (R' : Mem) (a b : Option EV), e = lEnv a0 (some (.l 0)) (some (.d (.list ws))) a3 (.list (ss.map sx)) (some (.d th')) a (some (.d (.tuple [.bool (rowB th'), .bool (stretchB th'), .bool (wordB th')]))) hv (dueD ss) b a11 ∧ m = penO q6 :: R') (by
      rintro x xs e m ⟨R', a, b, rfl, rfl⟩
      obtain ⟨b10, J, T, hh⟩ := b_inner (a0 := a0) (a1 := some (.l 0)) (a2 := some (.d (.list ws))) (a3 := a3) (a5 := some (.d th')) (a6 := some x) (a7 := some (.d (.tuple [.bool (rowB th'), .bool (stretchB th'), .bool (wordB th')]))) (a10 := b) (a11 := a11) (penO q6 :: R') hr hl hhv'
      exact ⟨trivial, _, rfl, _, _, hh, R' ++ [J] ++ [T], _, _, rfl, rfl⟩) (fun _ _ _ => trivial) (rgL 0 2) (lEnv a0 (some (.l 0)) (some (.d (.list ws))) a3 (.list (ss.map sx)) (some (.d th')) a6' (some (.d (.tuple [.bool (rowB th'), .bool (stretchB th'), .bool (wordB th')]))) hv (dueD ss) a10 a11) (penO q6 :: R) ⟨R, _, _, rfl, rfl⟩
  obtain ⟨e', m', hf, R', a, b, rfl, rfl⟩ := inner
  refine ⟨q6, R', some (.d (.list rows)), some (.d th'), a, some (.d (.tuple [.bool (rowB th'), .bool (stretchB th'), .bool (wordB th')])), some (.d hv), some (.d (dueD ss)), b, a11, hq6.mono (by omega), ?_⟩
  refine (seq_nx (set_k (v := .d (.list rows)) (m1 := penO q1 :: R) (frz_last ?_))).trans ?_
  · simp [eCall, aCons, aNil, eVar, eC, e1]
  refine (seq_nx (set_k (v := .d th) (m1 := penO q3 :: R) ?_)).trans ?_
  · have c1 := len_cut rows none (some 1)
    have c2 := len_cut rows (some 1) (some 2)
    have h1 : 3 + (DL.cutD rows none (some 1)).length ≤ 16777216 := by omega
    have h2 : 3 + (DL.cutD rows none (some 1)).length + (DL.cutD rows (some 1) (some 2)).length ≤ 16777216 := by omega
    have h3 : (DL.cutD rows none (some 1)).length + 1 + 1 + 1 + (DL.cutD rows (some 1) (some 2)).length ≤ 16777216 := by omega
    have e3' := e3
    simp only [List.cons_append, List.nil_append] at e3'
    simp [eCall, aCons, aNil, eVar, eC, eBin, eLst, eSl, oNo, oYes, eCB, DL.c1, tupleD, vw, slD, asD, addD, hz, e2', e3', h1, h2, h3]
  refine (seq_nx (e1 := [a0, some (.l 0), some (.d (.list ws)), a3, some (.d (.list rows)), some (.d th'), a6', a7, a8, a9, a10, a11]) (m1 := penO q5 :: R) ?_).trans ?_
  · refine for_of (rg1_of (j := d) ?_ d0 (by omega)) e5
    simp [eCall, aCons, aNil, eVar, eC, e4]
  refine (seq_nx (set_k (v := .d (.tuple [.bool (rowB th'), .bool (stretchB th'), .bool (wordB th')])) (m1 := penO q5 :: R) ?_)).trans ?_
  · simp [eTup, eCall, aCons, aNil, eVar, i1, i2, i3, asD, hz]
  refine (seq_nx ((if_f (m1 := penO q5 :: R) ?_).trans rfl)).trans ?_
  · simp [bOf, eBinF, eCB, c1F, aCons, aNil, eVar, eTup, eCall, k1, k2, k3, yardsB_eq, asD, hz, vwF, hzr, neD_str]
  refine (seq_nx (set_k (v := .d hv) (m1 := penO q6 :: R) ?_)).trans ?_
  · simp [eCall, aCons, aNil, eVar, eLst, eCB, DL.c1, vw, tupleD, asD, hz, e6]
  have hsum : eFrz (eLc (iAny (eVar 4)) (gNm 11) cYes (eBin ixD (eVar 11) (eC (.int 2))) [11]) [a0, some (.l 0), some (.d (.list ws)), a3, some (.d (.list rows)), some (.d th'), a6', some (.d (.tuple [.bool (rowB th'), .bool (stretchB th'), .bool (wordB th')])), some (.d hv), a9, a10, a11] M = some (.d (.list (ss.map fun t => .int t.m)), M) := by
    rw [hrows]
    exact lc_row (x := .d (.list (ss.map sx))) (fun t => .int t.m) (src_any0 (src_list _ _) rfl) (src_list _ _) ss rfl (by omega) fun t _ A => by simp [sizeLine_eq, fnM, fnOut, sSeq, sIf, sSet, sRet, sRetN, sNil, sEx, sAsg, sPar, sAug, eVar, eC, eBin, eBinF, eCB, c1, c2, c1F, aCons, aNil, eAnd, eOr, eNot, bNot, bTru, bAnd, bOr, bOf, eIf, eCall, eChain, eIs, eIs2, eNeg, eIsN, isnE, eLst, eTup, asD, eTupT, eIxT, eLstL, eApp, eGet, sPut, sSetIx, eSl, eSlF, oNo, oYes, eRev, gNm, gTp, setAll, vw, vwF, vwFs, truD, addD, subD, mulD', mulD, powD, ixD, lenD, cmpI, ltD, leD, gtD, geD, isT_int, isT_bool, isT_str, isT_list, isT_tuple, ty_int, ty_bool, ty_str, ty_list, ty_tuple, isT2, wipeE, sx, at2]
  have hj1 : eFrz (eCall m__law_joined (aCons (eVar 4) aNil)) [a0, some (.l 0), some (.d (.list ws)), a3, some (.d (.list rows)), some (.d th'), a6', some (.d (.tuple [.bool (rowB th'), .bool (stretchB th'), .bool (wordB th')])), some (.d hv), a9, a10, a11] M = some (.d (.list ((joinS ss).map sx)), M) := frz_lastM (by simp [eCall, aCons, aNil, eVar, j1])
  have hj2 : eFrz (eCall m__law_turned (aCons (eVar 4) aNil)) [a0, some (.l 0), some (.d (.list ws)), a3, some (.d (.list rows)), some (.d th'), a6', some (.d (.tuple [.bool (rowB th'), .bool (stretchB th'), .bool (wordB th')])), some (.d hv), a9, a10, a11] M = some (.d (.list ((turnS ss).map sx)), M) := frz_lastM (by simp [eCall, aCons, aNil, eVar, j2])
  refine (seq_nx (set_k (v := .d (dueD ss)) (m1 := penO q6 :: R) ?_)).trans ?_
  · rw [← hM]
    simp only [List.set_cons_succ, List.set_cons_zero]
    simp [eTup, aCons, aNil, hj1, hj2, eCB, DL.c1, hsum, vw, sumD, asI_map, asD, hz, dueD, sumS]
  refine for_of (rg1_of (j := 2) rfl (by decide) (by decide)) ?_
  rw [← hrows] at hf
  exact hf
end Lw
set_option Elab.async false
set_option linter.all false
set_option maxRecDepth 10000
set_option maxHeartbeats 4000000
namespace Lw
open PySem PySem.Spec PyProof.Rows DL L2

theorem cut63 (ns : List Int) (h : ns.length ≤ 63) : DL.cutD (ns.map PyData.int) none (some 63) = ns.map PyData.int := by
  unfold DL.cutD
  have h1 : HT.sIx (ns.map PyData.int).length 0 none = 0 := rfl
  have h2 : HT.sIx (ns.map PyData.int).length (ns.map PyData.int).length (some 63) = (ns.map PyData.int).length := by
    rw [List.length_map]
    simp [HT.sIx]
    omega
  rw [h1, h2]
  simp only [List.drop_zero, Nat.sub_zero]
  exact List.take_of_length_le (Nat.le_refl _)
theorem r_pen (ns : List Int) (h : ns.length ≤ 63) : m__law_pen [.f (ns.map PyData.int)] [] = some (.l 0, [penO ⟨ns, 0, 0⟩]) := by
  have hc := cut63 ns h
  have k1 : Str.ofString "cells" ≠ Str.ofString "turn" := by decide +kernel
  simp [m__law_pen, fnM, b__law_pen, sRet, eDct, mPairs, eCB, DL.c1, aCons, aNil, eSlF, oNo, oYes, eVar, eC, hc, vw, listD, fnOut, penO, kv, putP, k_ct, k_cl, k_tl, k_tc, k_lc, k_lt]
abbrev eT (a0 : Option EV) (ws : List PyData) (a3 a4 a5 a6 a7 a8 a9 a10 a11 : Option EV) : Env' := [a0, some (.l 0), some (.d (.list ws)), a3, a4, a5, a6, a7, a8, a9, a10, a11]
theorem r_end {e : Env'} {m : Mem} : (sRet (eAnd (eBinF eqD (eFrz (eCall m_joined (aCons (eLst aNil) aNil))) (eLst aNil)) (eAnd (eBinF eqD (eFrz (eCall m_turned (aCons (eTup aNil) aNil))) (eLst aNil)) (eBinF eqD (eCall m_yards (aCons (eLst aNil) aNil)) (eC (.int 0)))))) e m = some (.rt (.d (.bool true)), m) := by
  have hz := sizeLine_eq
  have e1 : m_joined [.d (.list [])] m = some (.l m.length, m ++ [.lst []]) := r_joined (ss := []) (B := 0) (src_list _ _) (by simp) (by decide) (by decide)
  have e2 : m_turned [.d (.tuple [])] m = some (.l m.length, m ++ [.lst []]) := r_turned (ss := []) (B := 0) (.inr (.inl rfl)) (by simp) (by decide) (by decide)
  have e3 : m_yards [.d (.list [])] m = some (.d (.int 0), m) := r_yards (ss := []) (src_list _ _) (by decide)
  have f1 : eFrz (eCall m_joined (aCons (eLst aNil) aNil)) e m = some (.d (.list []), m) := frz_lastM (by simp [eCall, aCons, aNil, eLst, asD, e1])
  have f2 : eFrz (eCall m_turned (aCons (eTup aNil) aNil)) e m = some (.d (.list []), m) := frz_lastM (by simp [eCall, aCons, aNil, eTup, asD, e2])
  have f3 : (eCall m_yards (aCons (eLst aNil) aNil)) e m = some (.d (.int 0), m) := by simp [eCall, aCons, aNil, eLst, asD, e3]
  have n0 := eq_nil_list []
  simp [sRet, eAnd, eBinF, f1, f2, f3, eLst, aNil, asD, vwF, vw, n0, eqD_int, eC, truD]
theorem law_true : ∀ ns : List Int, ns.length ≤ 63 → ∃ m', m_law [.f (ns.map PyData.int)] [] = some (.d (.bool true), m') := by
  intro ns h
  have hp0 : okP 0 ⟨ns, 0, 0⟩ := ⟨h, Int.le_refl 0, Int.le_refl 0⟩
  obtain ⟨ws, p1, w1, w2, hp1, e1⟩ := r_words ⟨ns, 0, 0⟩ [] hp0 (by decide)
  obtain ⟨e', m', hf, R', q, c, a3, a4, a5, a6, a7, a8, a9, a10, a11, rfl, rfl, _, _⟩ := for_ind (g := gNm 3) (b := bodyT) (C := noC)
    (fun xs e m => ∃ (R : Mem) (q : Pen) (c : Nat) (a3 a4 a5 a6 a7 a8 a9 a10 a11 : Option EV), e = eT (some (.f (ns.map PyData.int))) ws a3 a4 a5 a6 a7 a8 a9 a10 a11 ∧ m = penO q :: R ∧ okP (20 + 2000 * c) q ∧ c + xs.length ≤ 10) (by
      rintro x xs e m ⟨R, q, c, a3, a4, a5, a6, a7, a8, a9, a10, a11, rfl, rfl, hq, hc⟩
      simp only [List.length_cons] at hc
      obtain ⟨q', R', b4, b5, b6, b7, b8, b9, b10, b11, hq', hb⟩ := b_turn (R := R) (a0 := some (.f (ns.map PyData.int))) (a3 := some x) (a4 := a4) (a5 := a5) (a6 := a6) (a7 := a7) (a8 := a8) (a9 := a9) (a10 := a10) (a11 := a11) w2 (by intro z; rw [z] at w1; cases w1) (by omega) hq (by omega)
      exact ⟨trivial, _, rfl, _, _, hb, R', q', c + 1, _, _, _, _, _, _, _, _, _, rfl, rfl, hq'.mono (by omega), by omega⟩) (fun _ _ _ => trivial) (rgL 0 10) (eT (some (.f (ns.map PyData.int))) ws none none none none none none none none none) [penO p1] ⟨[], p1, 0, _, _, _, _, _, _, _, _, _, rfl, rfl, hp1, by rw [rgL_len]; decide⟩
  have hb : b_law [some (.f (ns.map PyData.int)), none, none, none, none, none, none, none, none, none, none, none] [] = some (.rt (.d (.bool true)), penO q :: R') := by
    refine (seq_nx (set_k (v := .l 0) (m1 := [penO ⟨ns, 0, 0⟩]) ?_)).trans ?_
    · simp [eCall, aCons, aNil, eVar, r_pen ns h]
    refine (seq_nx (set_k (v := .d (.list ws)) (m1 := [penO p1]) ?_)).trans ?_
    · simp [eCall, aCons, aNil, eVar, eC, e1]
    refine (seq_nx (for_of (rg1_of (j := 10) rfl (by decide) (by decide)) hf)).trans r_end
  have hm : m_law [.f (ns.map PyData.int)] [] = fnOut 0 (some (.rt (.d (.bool true)), penO q :: R')) := by
    rw [← hb]; rfl
  exact ⟨_, hm⟩
end Lw
open PySem PySem.W PyProof.Rows
set_option maxRecDepth 100000 in
set_option maxHeartbeats 0 in
theorem PySem.Challenge.cw_spoolrounds_k01_rows_of_thread_holds : PySem.Challenge.rw_spoolrounds_k01_rows_of_thread.Holds := by
  w_on; o_law; k_head; (case hw => w_witness2)
  k_fill
  refine DL.walk_g (l := PySem.Challenge.rw_spoolrounds_k01_rows_of_thread) (F := Lw.m_law) (k := 20) (x := "script") rfl (by decide) rfl ⟨rfl, by decide, by decide⟩ (fun w h Y => PySem.W.kIn_of Y) ?G Lw.law_true
  case G =>
    intro w mg fa h KX G hmg
    refine' Lw.all_mk KX G hmg ?a0 ?l0 ?c0 ?k0 ?a1 ?l1 ?c1 ?k1 ?a2 ?l2 ?c2 ?k2 ?a3 ?l3 ?c3 ?k3 ?a4 ?l4 ?c4 ?k4 ?a5 ?l5 ?c5 ?k5 ?a6 ?l6 ?c6 ?k6 ?a7 ?l7 ?c7 ?k7 ?a8 ?l8 ?c8 ?k8 ?a9 ?l9 ?c9 ?k9 ?a10 ?l10 ?c10 ?k10 ?a11 ?l11 ?c11 ?k11 ?a12 ?l12 ?c12 ?k12 ?a13 ?l13 ?c13 ?k13 ?a14 ?l14 ?c14 ?k14 ?a15 ?l15 ?c15 ?k15 ?a16 ?l16 ?c16 ?k16 ?a17 ?l17 ?c17 ?k17 ?a18 ?l18 ?c18 ?k18 ?a19 ?l19 ?c19 ?k19 ?a20 ?l20 ?c20 ?k20 ?a21 ?l21 ?c21 ?k21 ?a22 ?l22 ?c22 ?k22 ?a23 ?l23 ?c23 ?k23 ?a24 ?l24 ?c24 ?k24 ?a25 ?l25 ?c25 ?k25 ?z_abs ?z_all ?z_bool ?z_int ?z_isinstance ?z_len ?z_list ?z_range ?z_repr ?z_reversed ?z_str ?z_sum ?z_tuple ?y_LAST_NUMBER ?y_LETTERS ?y_LONGEST_WORD
    (case a0 => k_is)
    (case l0 => k_is)
    (case c0 => k_is)
    (case k0 => k_is)
    (case a1 => k_is)
    (case l1 => k_is)
    (case c1 => k_is)
    (case k1 => k_is)
    (case a2 => k_is)
    (case l2 => k_is)
    (case c2 => k_is)
    (case k2 => k_is)
    (case a3 => k_is)
    (case l3 => k_is)
    (case c3 => k_is)
    (case k3 => k_is)
    (case a4 => k_is)
    (case l4 => k_is)
    (case c4 => k_is)
    (case k4 => k_is)
    (case a5 => k_is)
    (case l5 => k_is)
    (case c5 => k_is)
    (case k5 => k_is)
    (case a6 => k_is)
    (case l6 => k_is)
    (case c6 => k_is)
    (case k6 => k_is)
    (case a7 => k_is)
    (case l7 => k_is)
    (case c7 => k_is)
    (case k7 => k_is)
    (case a8 => k_is)
    (case l8 => k_is)
    (case c8 => k_is)
    (case k8 => k_is)
    (case a9 => k_is)
    (case l9 => k_is)
    (case c9 => k_is)
    (case k9 => k_is)
    (case a10 => k_is)
    (case l10 => k_is)
    (case c10 => k_is)
    (case k10 => k_is)
    (case a11 => k_is)
    (case l11 => k_is)
    (case c11 => k_is)
    (case k11 => k_is)
    (case a12 => k_is)
    (case l12 => k_is)
    (case c12 => k_is)
    (case k12 => k_is)
    (case a13 => k_is)
    (case l13 => k_is)
    (case c13 => k_is)
    (case k13 => k_is)
    (case a14 => k_is)
    (case l14 => k_is)
    (case c14 => k_is)
    (case k14 => k_is)
    (case a15 => k_is)
    (case l15 => k_is)
    (case c15 => k_is)
    (case k15 => k_is)
    (case a16 => k_is)
    (case l16 => k_is)
    (case c16 => k_is)
    (case k16 => k_is)
    (case a17 => k_is)
    (case l17 => k_is)
    (case c17 => k_is)
    (case k17 => k_is)
    (case a18 => k_is)
    (case l18 => k_is)
    (case c18 => k_is)
    (case k18 => k_is)
    (case a19 => k_is)
    (case l19 => k_is)
    (case c19 => k_is)
    (case k19 => k_is)
    (case a20 => k_is)
    (case l20 => k_is)
    (case c20 => k_is)
    (case k20 => k_is)
    (case a21 => k_is)
    (case l21 => k_is)
    (case c21 => k_is)
    (case k21 => k_is)
    (case a22 => k_is)
    (case l22 => k_is)
    (case c22 => k_is)
    (case k22 => k_is)
    (case a23 => k_is)
    (case l23 => k_is)
    (case c23 => k_is)
    (case k23 => k_is)
    (case a24 => k_is)
    (case l24 => k_is)
    (case c24 => k_is)
    (case k24 => k_is)
    (case a25 => k_is)
    (case l25 => k_is)
    (case c25 => k_is)
    (case k25 => k_is)
    (case z_abs => k_is)
    (case z_all => k_is)
    (case z_bool => k_is)
    (case z_int => k_is)
    (case z_isinstance => k_is)
    (case z_len => k_is)
    (case z_list => k_is)
    (case z_range => k_is)
    (case z_repr => k_is)
    (case z_reversed => k_is)
    (case z_str => k_is)
    (case z_sum => k_is)
    (case z_tuple => k_is)
    (case y_LAST_NUMBER => k_is)
    (case y_LETTERS => k_is)
    (case y_LONGEST_WORD => k_is)