import PyProof.Rows.All
import Wide.All
import OpenK.AllK
import Wide.FinOn
import HandS.ForMost
import HandS.IsInst
import HandS.FStr
import HandS.Style
import HandS.SetKeys
import PyProof.ReprRoads
import HandS.Dict
import HandS.Words
import HandS.Ends
import PyProof.ReprLen
import PyProof.StrLawsRepr
import KE.DataCmp
import KE.KDictItemsList
import KE.KDictZip
import HandS.Zip0
import HandS.Zip
import HandS.ListItems
import HandS.TryOnly
import HandS.Iter
import HandS.TupAny
import PySem.Challenge.RW_joinedends_k22_instances_of_equations
set_option Elab.async false
set_option maxRecDepth 100000
/-! ### terms, and what a heap says of them -/
namespace J
open PySem L2

/-- a term of the document -/
inductive Tm where
  | var (n : Int)
  | app (f : Str) (ts : List Tm)

mutual
def Tm.sz : Tm → Nat
  | .var _ => 1
  | .app _ ts => 1 + Tm.szs ts
def Tm.szs : List Tm → Nat
  | [] => 0
  | t :: ts => Tm.sz t + Tm.szs ts
end
mutual
def Tm.dep : Tm → Nat
  | .var _ => 1
  | .app _ ts => 1 + Tm.deps ts
def Tm.deps : List Tm → Nat
  | [] => 0
  | t :: ts => max (Tm.dep t) (Tm.deps ts)
end
mutual
/-- t stands in H as the value v -/
def TmIn (H : Hp) : Tm → V → Prop
  | .var n, v => v = .int n
  | .app f ts, v => ∃ a vs, v = .ref a ∧ H a = some (.tup (.str f :: vs)) ∧ TmsIn H ts vs
def TmsIn (H : Hp) : List Tm → List V → Prop
  | [], vs => vs = []
  | t :: ts, vs => ∃ v r, vs = v :: r ∧ TmIn H t v ∧ TmsIn H ts r
end
/-- the arity of the k-th drawn operation -/
def ar (k : Nat) : Nat := if k < 2 then 0 else k - 1
mutual
/-- variables below B, applications of the named operations -/
def Tm.wf (fs : List Str) (B : Int) : Tm → Prop
  | .var n => 0 ≤ n ∧ n < B
  | .app f ts => (∃ k, fs[k]? = some f ∧ ts.length = ar k) ∧ Tm.wfs fs B ts
def Tm.wfs (fs : List Str) (B : Int) : List Tm → Prop
  | [] => True
  | t :: ts => Tm.wf fs B t ∧ Tm.wfs fs B ts
end

/-- induction over terms -/
theorem Tm.ind {P : Tm → Prop} (hv : ∀ n, P (.var n)) (ha : ∀ f ts, (∀ t ∈ ts, P t) → P (.app f ts)) : ∀ t, P t
  | .var n => hv n
  | .app f ts => ha f ts (go ts)
where go : ∀ ts : List Tm, ∀ t ∈ ts, P t
  | [], _, h => nomatch h
  | u :: us, t, h => by
    rcases List.mem_cons.mp h with e | h
    · rw [e]; exact Tm.ind hv ha u
    · exact go us t h

theorem Tm.sz_pos : ∀ t : Tm, 1 ≤ t.sz
  | .var _ => Nat.le_refl _
  | .app _ _ => by show 1 ≤ 1 + _; omega
theorem Tm.dep_pos : ∀ t : Tm, 1 ≤ t.dep
  | .var _ => Nat.le_refl _
  | .app _ _ => by show 1 ≤ 1 + _; omega
theorem Tm.dep_of_mem : ∀ {ts : List Tm} {t : Tm}, t ∈ ts → t.dep ≤ Tm.deps ts
  | u :: us, t, h => by
    show t.dep ≤ max u.dep (Tm.deps us)
    rcases List.mem_cons.mp h with e | h
    · rw [e]; omega
    · have := Tm.dep_of_mem h; omega
theorem Tm.deps_le : ∀ {ts : List Tm} {n : Nat}, (∀ t ∈ ts, t.dep ≤ n) → Tm.deps ts ≤ n
  | [], _, _ => Nat.zero_le _
  | u :: us, n, h => by
    have h1 := h u (List.mem_cons_self ..)
    have h2 := Tm.deps_le (ts := us) fun t m => h t (List.mem_cons_of_mem _ m)
    show max u.dep (Tm.deps us) ≤ n
    omega
theorem Tm.szs_le : ∀ {ts : List Tm} {M : Nat}, (∀ t ∈ ts, 2 * t.sz + 1 ≤ M) → 2 * Tm.szs ts + ts.length ≤ ts.length * M
  | [], _, _ => by show 2 * 0 + 0 ≤ _; omega
  | u :: us, M, h => by
    have h1 := h u (List.mem_cons_self ..)
    have h2 := Tm.szs_le (ts := us) (M := M) fun t m => h t (List.mem_cons_of_mem _ m)
    show 2 * (u.sz + Tm.szs us) + (us.length + 1) ≤ (us.length + 1) * M
    rw [Nat.add_mul, Nat.one_mul]
    omega
theorem Tm.szs_three {ts : List Tm} {h : Nat} (hl : ts.length ≤ 3) (hw : ∀ t ∈ ts, 2 * t.sz + 1 ≤ 3 ^ h) : 2 * (1 + Tm.szs ts) + 1 ≤ 3 ^ (h + 1) := by
  have h1 := Tm.szs_le hw
  have h3 : 1 ≤ 3 ^ h := Nat.pow_pos (by decide)
  have h2 : 3 ^ (h + 1) = 3 ^ h * 3 := rfl
  generalize 3 ^ h = M at *
  rw [h2]
  match e : ts.length, hl with
  | 0, _ => rw [e] at h1; omega
  | 1, _ => rw [e] at h1; omega
  | 2, _ => rw [e] at h1; omega
  | 3, _ => rw [e] at h1; omega
theorem Tm.wf_of_mem {fs : List Str} {B : Int} : ∀ {ts : List Tm} {t : Tm}, Tm.wfs fs B ts → t ∈ ts → t.wf fs B
  | u :: us, t, w, h => by
    have w : u.wf fs B ∧ Tm.wfs fs B us := w
    rcases List.mem_cons.mp h with e | h
    · rw [e]; exact w.1
    · exact Tm.wf_of_mem w.2 h
theorem Tm.wfs_of {fs : List Str} {B : Int} : ∀ {ts : List Tm}, (∀ t ∈ ts, t.wf fs B) → Tm.wfs fs B ts
  | [], _ => True.intro
  | u :: us, h => ⟨h u (List.mem_cons_self ..), Tm.wfs_of fun t m => h t (List.mem_cons_of_mem _ m)⟩

/-- a tuple that is known stays known -/
def Tu (H H' : Hp) : Prop := ∀ a xs, H a = some (.tup xs) → H' a = some (.tup xs)
theorem Tu.refl (H : Hp) : Tu H H := fun _ _ h => h
theorem Tu.trans {H H1 H2 : Hp} (a : Tu H H1) (b : Tu H1 H2) : Tu H H2 := fun x y h => b x y (a x y h)
theorem tu_same {H H' : Hp} (s : Same H H') : Tu H H' := fun a _ h => s a _ h
theorem tu_upd {H : Hp} {p : Addr} {o : HO} (h : ∀ xs, H p ≠ some (.tup xs)) : Tu H (upd H p o) := fun a xs e => by
  have ne : a ≠ p := fun z => by subst z; exact h _ e
  rw [upd_ne ne]; exact e
mutual
theorem TmIn.mono {H H' : Hp} (s : Tu H H') : ∀ (t : Tm) (v : V), TmIn H t v → TmIn H' t v
  | .var _, _, h => h
  | .app _ ts, _, ⟨a, vs, e, h, r⟩ => ⟨a, vs, e, s _ _ h, TmsIn.mono s ts vs r⟩
theorem TmsIn.mono {H H' : Hp} (s : Tu H H') : ∀ (ts : List Tm) (vs : List V), TmsIn H ts vs → TmsIn H' ts vs
  | [], _, h => h
  | t :: ts, _, ⟨v, r, e, h, q⟩ => ⟨v, r, e, TmIn.mono s t v h, TmsIn.mono s ts r q⟩
end
theorem TmIn.tu {H H' : Hp} {t : Tm} {v : V} (h : TmIn H t v) (s : Tu H H') : TmIn H' t v := TmIn.mono s t v h
theorem TmsIn.tu {H H' : Hp} {t : List Tm} {v : List V} (h : TmsIn H t v) (s : Tu H H') : TmsIn H' t v := TmsIn.mono s t v h
theorem TmsIn.length {H : Hp} : ∀ {ts : List Tm} {vs : List V}, TmsIn H ts vs → vs.length = ts.length
  | [], _, h => by cases (show _ = [] from h); rfl
  | t :: ts, _, ⟨v, r, e, _, q⟩ => by rw [e, List.length_cons, List.length_cons, TmsIn.length q]
theorem TmsIn.get {H : Hp} : ∀ {ts : List Tm} {vs : List V} {i : Nat} {v : V}, TmsIn H ts vs → vs[i]? = some v → ∃ t, ts[i]? = some t ∧ TmIn H t v
  | [], _, i, v, h, e => by cases (show _ = [] from h); simp at e
  | t :: ts, _, 0, v, ⟨w, r, rfl, h, q⟩, e => by
    have e : w = v := by simpa using e
    exact ⟨t, rfl, e ▸ h⟩
  | t :: ts, _, i + 1, v, ⟨w, r, rfl, h, q⟩, e => by
    obtain ⟨u, h1, h2⟩ := TmsIn.get (i := i) (v := v) q (by simpa using e)
    exact ⟨u, by simpa using h1, h2⟩
theorem TmsIn.get' {H : Hp} {ts : List Tm} {vs : List V} {i : Nat} {t : Tm} (h : TmsIn H ts vs) (e : ts[i]? = some t) : ∃ v, vs[i]? = some v ∧ TmIn H t v := by
  have hi : i < ts.length := (List.getElem?_eq_some_iff.mp e).1
  rw [← h.length] at hi
  obtain ⟨u, h1, h2⟩ := h.get (List.getElem?_eq_getElem hi)
  rw [e] at h1
  cases h1
  exact ⟨_, List.getElem?_eq_getElem hi, h2⟩
theorem TmsIn.append {H : Hp} : ∀ {ts us : List Tm} {vs ws : List V}, TmsIn H ts vs → TmsIn H us ws → TmsIn H (ts ++ us) (vs ++ ws)
  | [], us, vs, ws, h, q => by cases (show vs = [] from h); exact q
  | t :: ts, us, _, ws, ⟨v, r, rfl, h, k⟩, q => ⟨v, r ++ ws, rfl, h, TmsIn.append k q⟩
theorem TmsIn.one {H : Hp} {t : Tm} {v : V} (h : TmIn H t v) : TmsIn H [t] [v] := ⟨v, [], rfl, h, rfl⟩

/-! ### heaps -/
theorem same_new {H : Hp} {p : Addr} (h : H p = none) (o : HO) : Same H (upd H p o) := fun b u q => by rw [upd_ne (ne_of_none q h)]; exact q
/-- what H does not know may change -/
theorem same_mut {H H' : Hp} {p : Addr} (e : Same H H') (h : H p = none) (o : HO) : Same H (upd H' p o) := fun a u ha => by
  rw [upd_ne (ne_of_none ha h)]; exact e a u ha
theorem al_same {H H1 : Hp} {p : Addr} {o : HO} (n : H p = none) (e : upd H p o = H1) : Same H H1 := e ▸ same_new n o
theorem al_at {H H1 : Hp} {p : Addr} {o : HO} (e : upd H p o = H1) : H1 p = some o := by rw [← e]; exact upd_same
theorem al_mut {H0 H H1 : Hp} {p : Addr} {o : HO} (s : Same H0 H) (n : H0 p = none) (e : upd H p o = H1) : Same H0 H1 := e ▸ same_mut s n o
theorem al_but {H H1 : Hp} {p : Addr} {o : HO} (e : upd H p o = H1) : ∀ b u, H b = some u → b ≠ p → H1 b = some u := fun b u h n => by rw [← e, upd_ne n]; exact h
/-- all but the object at s stands as it stood -/
def But (s : Addr) (H H' : Hp) : Prop := ∀ b o, H b = some o → b ≠ s → H' b = some o
theorem But.refl (s : Addr) (H : Hp) : But s H H := fun _ _ h _ => h
theorem But.trans {s : Addr} {H H1 H2 : Hp} (a : But s H H1) (b : But s H1 H2) : But s H H2 := fun c o h n => b c o (a c o h n) n
theorem but_same {s : Addr} {H H' : Hp} (h : Same H H') : But s H H' := fun b o q _ => h b o q
theorem but_upd {s : Addr} {H : Hp} (o : HO) : But s H (upd H s o) := fun b u q n => by rw [upd_ne n]; exact q
theorem But.mut {s : Addr} {H H' : Hp} {p : Addr} (e : But s H H') (h : H p = none) (o : HO) : But s H (upd H' p o) := fun a u ha n => by
  rw [upd_ne (ne_of_none ha h)]; exact e a u ha n

/-- the list at s from which a script is drawn (what is left of a number, the numbers at l, the place, the seed) -/
def St (H : Hp) (s l : Addr) : Prop := ∃ (v at0 sd : Int) (ns : List Int), H s = some (.lst [.int v, .ref l, .int at0, .int sd]) ∧ H l = some (.lst (ns.map V.int)) ∧
  0 ≤ at0 ∧ at0 ≤ (ns.length : Int) ∧ 0 ≤ v ∧ 0 ≤ sd ∧ sd < 2147483648 ∧ ns.length ≤ 63
theorem St.ne_list {H : Hp} {s l : Addr} {ns : List Int} {v at0 sd : Int} {l' : Addr} (h : H s = some (.lst [.int v, .ref l', .int at0, .int sd])) (q : H l = some (.lst (ns.map V.int))) : l ≠ s := by
  intro e; subst e
  rw [h] at q
  injection q with q; injection q with q
  match ns, q with
  | [], q => cases q
  | [_], q => injection q with _ q; cases q
  | _ :: _ :: _, q => injection q with _ q; injection q with q _; cases q
theorem St.ne {H : Hp} {s l : Addr} (h : St H s l) : l ≠ s := by
  obtain ⟨v, a, d, ns, h1, h2, r⟩ := h
  exact St.ne_list h1 h2
theorem St.same {H H' : Hp} {s l : Addr} (h : St H s l) (b : Same H H') : St H' s l := by
  obtain ⟨v, a, d, ns, h1, h2, r⟩ := h
  exact ⟨v, a, d, ns, b _ _ h1, b _ _ h2, r⟩
theorem St.lst {H : Hp} {s l : Addr} (h : St H s l) : ∃ v a d : Int, H s = some (.lst [.int v, .ref l, .int a, .int d]) := by
  obtain ⟨v, a, d, ns, h1, _⟩ := h
  exact ⟨_, _, _, h1⟩
theorem St.nums {H : Hp} {s l : Addr} (h : St H s l) : ∃ ns : List Int, H l = some (.lst (ns.map V.int)) := by
  obtain ⟨v, a, d, ns, h1, h2, _⟩ := h
  exact ⟨_, h2⟩
theorem St.upd {H : Hp} {s l D : Addr} {o : HO} (h : St H s l) (n1 : s ≠ D) (n2 : l ≠ D) : St (upd H D o) s l := by
  obtain ⟨v, a, d, ns, h1, h2, r⟩ := h
  exact ⟨v, a, d, ns, by rw [upd_ne n1]; exact h1, by rw [upd_ne n2]; exact h2, r⟩
/-- an address that was free -/
theorem St.free {H : Hp} {s l D : Addr} (h : St H s l) (n : H D = none) : s ≠ D ∧ l ≠ D := by
  obtain ⟨v, a, d, ns, h1, h2, r⟩ := h
  exact ⟨ne_of_none h1 n, ne_of_none h2 n⟩
theorem St.but {H H' : Hp} {s l p : Addr} (h : St H s l) (b : But p H H') (n1 : s ≠ p) (n2 : l ≠ p) : St H' s l := by
  obtain ⟨v, a, d, ns, h1, h2, r⟩ := h
  exact ⟨v, a, d, ns, b _ _ h1 n1, b _ _ h2 n2, r⟩
theorem St.tu {H H' : Hp} {s l : Addr} (h : St H s l) (b : But s H H') : Tu H H' := fun a xs e => b a _ e fun z => by
  obtain ⟨_, _, _, q⟩ := h.lst
  rw [z, q] at e; cases e
/-- an object of another kind than the state's -/
theorem St.ne_tup {H : Hp} {s l a : Addr} {xs : List V} (h : St H s l) (e : H a = some (.tup xs)) : a ≠ s := fun z => by
  obtain ⟨_, _, _, q⟩ := h.lst
  rw [z, q] at e; cases e
theorem St.ne_dK {H : Hp} {s l a : Addr} {xs} (h : St H s l) (e : H a = some (.dK xs)) : a ≠ s := fun z => by
  obtain ⟨_, _, _, q⟩ := h.lst
  rw [z, q] at e; cases e

/-! ### names and operations -/
def Low (z : Str) : Prop := ∀ c ∈ z.cps.toList, 97 ≤ c ∧ c ≤ 122
/-- drawn names -/
structure Names (fs : List Str) : Prop where
  low : ∀ f ∈ fs, Low f
  lo : ∀ f ∈ fs, 1 ≤ f.length
  hi : ∀ f ∈ fs, f.length ≤ 7
  nd : fs.Nodup
/-- drawn operations at o -/
def Ops (H : Hp) (o : Addr) (fs : List Str) : Prop := Names fs ∧ (fs.length = 4 ∨ fs.length = 5) ∧ ∃ as : List Addr, H o = some (.lst (as.map V.ref)) ∧ as.length = fs.length ∧
  ∀ (k : Nat) (f : Str) (a : Addr), fs[k]? = some f → as[k]? = some a → H a = some (.tup [.str f, .int (ar k)])
theorem Ops.ne {H : Hp} {o s l : Addr} {fs : List Str} (h : Ops H o fs) (q : St H s l) : o ≠ s := by
  obtain ⟨_, hl, as, h1, h2, _⟩ := h
  obtain ⟨v, a, d, ns, e, _⟩ := q
  intro z; subst z
  rw [h1] at e
  injection e with e; injection e with e
  match as, e with
  | [], e => cases e
  | x :: _, e => injection e with e _; cases e
theorem Ops.but {H H' : Hp} {o s l : Addr} {fs : List Str} (h : Ops H o fs) (q : St H s l) (b : But s H H') : Ops H' o fs := by
  have ne := h.ne q
  obtain ⟨n, hl, as, h1, h2, h3⟩ := h
  exact ⟨n, hl, as, b _ _ h1 ne, h2, fun k f a e e' => b _ _ (h3 k f a e e') (q.ne_tup (h3 k f a e e'))⟩
theorem Ops.same {H H' : Hp} {o : Addr} {fs : List Str} (h : Ops H o fs) (b : Same H H') : Ops H' o fs := by
  obtain ⟨n, hl, as, h1, h2, h3⟩ := h
  exact ⟨n, hl, as, b _ _ h1, h2, fun k f a e e' => b _ _ (h3 k f a e e')⟩
theorem Ops.get {H : Hp} {o : Addr} {fs : List Str} (h : Ops H o fs) {k : Nat} (hk : k < fs.length) : ∃ (xs : List V) (a : Addr) (f : Str), H o = some (.lst xs) ∧ xs.length = fs.length ∧ xs[k]? = some (.ref a) ∧ fs[k]? = some f ∧ H a = some (.tup [.str f, .int (ar k)]) := by
  obtain ⟨n, hl, as, h1, h2, h3⟩ := h
  have hk' : k < as.length := by omega
  refine ⟨_, as[k], fs[k], h1, by rw [List.length_map, h2], ?_, List.getElem?_eq_getElem hk, h3 k _ _ (List.getElem?_eq_getElem hk) (List.getElem?_eq_getElem hk')⟩
  rw [List.getElem?_map, List.getElem?_eq_getElem hk']; rfl

/-! ### rules whose readings name the written part -/
def rLenS (K : PySem.W.Frag) : List V → Hp → VK → Prop := fun xs H Q => ∃ p ys, xs = [.ref p] ∧ (SqL K H p ys ∨ SqT K H p ys) ∧ Q (.int ys.length) H
def rListS (K : PySem.W.Frag) : List V → Hp → VK → Prop := fun xs H Q => ∃ p ys, xs = [.ref p] ∧ (SqL K H p ys ∨ SqT K H p ys) ∧ ∀ l, H l = none → Q (.ref l) (upd H l (.lst ys))
def rTupS (K : PySem.W.Frag) : List V → Hp → VK → Prop := fun xs H Q => ∃ p ys, xs = [.ref p] ∧ ((SqL K H p ys ∧ ∀ l, H l = none → Q (.ref l) (upd H l (.tup ys))) ∨ (SqT K H p ys ∧ Q (.ref p) H))
section
variable {X : Cx}
theorem j_len : CallR X (.builtin "len") (rLenS X.K) := call_len_seq
theorem j_list : CallR X (.type "list") (rListS X.K) := call_list_of
theorem j_tuple : CallR X (.type "tuple") (rTupS X.K) := call_tuple_of
end
/-! ### two ways meet again ahead of the rest -/
theorem seq_join {t u : TS} {D : Ends} {σ : L2.St} {H : Hp} (I : L2.St → Hp → Prop) (h2 : ∀ σ' H', I σ' H' → u D σ' H') (h1 : ∀ N : L2.St → Hp → Prop, (∀ σ' H', I σ' H' → N σ' H') → t { D with nx := N } σ H) : tSeq t u D σ H := h1 (u D) h2
theorem int_of {i j : Int} (h : (V.bl (decide (i = j))) = .bl true) : i = j := by
  injection h with h; exact of_decide_eq_true h
theorem fmod_0 {a m : Int} (h : 1 ≤ m) : 0 ≤ a.fmod m := by
  rw [Int.fmod_eq_emod_of_nonneg _ (by omega)]; exact Int.emod_nonneg _ (by omega)
theorem fmod_lt {a m : Int} (h : 1 ≤ m) : a.fmod m < m := by
  rw [Int.fmod_eq_emod_of_nonneg _ (by omega)]; exact Int.emod_lt_of_pos _ (by omega)
theorem at_int {ns : List Int} {k : Int} (h0 : 0 ≤ k) (h : k < (ns.length : Int)) : ∃ n, atI (ns.map V.int) k = some (.int n) := by
  have hk : k.toNat < ns.length := by omega
  have q : atI (ns.map V.int) ((k.toNat : Nat) : Int) = some (.int ns[k.toNat]) := atI_nat (by rw [List.getElem?_map, List.getElem?_eq_getElem hk]; rfl)
  rw [Int.toNat_of_nonneg h0] at q
  exact ⟨_, q⟩
theorem at_get {xs : List V} {k : Int} {v : V} (h0 : 0 ≤ k) (h : xs[k.toNat]? = some v) : atI xs k = some v := by
  have q : atI xs ((k.toNat : Nat) : Int) = some v := atI_nat h
  rw [Int.toNat_of_nonneg h0] at q
  exact q
/-! ### contracts that nothing meets -/
theorem fn_none {P : Program} {w : World} {K : PySem.W.Frag} {mg : Str → Option Value} {base : Heap} {CX : CXT} {f : Addr} {fd : FuncData} {ps : List Str} {sp : Sp} {k : Nat} (no : ∀ vs H Q E, ¬ sp vs H Q E) : FnOk P w K mg base CX k f fd ps sp :=
  ⟨fun vs H Q E h => absurd h (no vs H Q E), fun _ _ _ _ _ _ vs Q E _ _ _ _ h => absurd h (no vs _ Q E)⟩
end J
/-! ### isinstance, slices of terms -/
namespace J
open PySem L2
section
variable {K : PySem.W.Frag} {H : Hp} {Q : VK}
theorem isi {x : V} {n m : String} {b : Bool} (ty : TyX K H x (.type n)) (h : kitB n m = some b) (q : Q (.bl b) H) : rIsi K [x, .ty m] H Q := ⟨x, .ty m, .type n, .type m, b, rfl, .ty m, ty, kit_ty h, q⟩
theorem isi_int {i : Int} {m : String} {b : Bool} (h : kitB "int" m = some b) (q : Q (.bl b) H) : rIsi K [.int i, .ty m] H Q := isi (.base (.int i)) h q
theorem isi_str {x : Str} {m : String} {b : Bool} (h : kitB "str" m = some b) (q : Q (.bl b) H) : rIsi K [.str x, .ty m] H Q := isi (.base (.str x)) h q
theorem isi_tup {a : Addr} {xs : List V} {m : String} {b : Bool} (e : H a = some (.tup xs)) (h : kitB "tuple" m = some b) (q : Q (.bl b) H) : rIsi K [.ref a, .ty m] H Q := isi (.base (.tup e)) h q
theorem isi_lst {a : Addr} {xs : List V} {m : String} {b : Bool} (e : H a = some (.lst xs)) (h : kitB "list" m = some b) (q : Q (.bl b) H) : rIsi K [.ref a, .ty m] H Q := isi (.base (.lst e)) h q
theorem isi_dK {a : Addr} {xs} {m : String} {b : Bool} (e : H a = some (.dK xs)) (h : kitB "dict" m = some b) (q : Q (.bl b) H) : rIsi K [.ref a, .ty m] H Q := isi (.base (.dK e)) h q
theorem isi_bl {i : Bool} {m : String} {b : Bool} (h : kitB "bool" m = some b) (q : Q (.bl b) H) : rIsi K [.bl i, .ty m] H Q := isi (.base (.bl i)) h q
end
theorem cut1 (x : V) (vs : List V) : cutV (x :: vs) (some 1) none = vs := by
  unfold cutV
  have e1 : HT.sIx (x :: vs).length 0 (some 1) = 1 := by
    show min 1 (vs.length + 1) = 1
    omega
  have e2 : HT.sIx (x :: vs).length (x :: vs).length none = vs.length + 1 := rfl
  rw [e1, e2]
  simp
theorem sl1c (x : V) (vs : List V) : ¬ (HT.sIx (x :: vs).length 0 (some 1) = 0 ∧ HT.sIx (x :: vs).length (x :: vs).length none = (x :: vs).length) := by
  intro ⟨z, _⟩
  have e1 : HT.sIx (x :: vs).length 0 (some 1) = 1 := by
    show min 1 (vs.length + 1) = 1
    omega
  rw [e1] at z; cases z
theorem at_zero {x : V} {xs : List V} : atI (x :: xs) 0 = some x := atI_nat (j := 0) rfl
/-- t[1:] of an application -/
theorem sl1 {K : PySem.W.Frag} {H : Hp} {Q : VK} {a : Addr} {x : V} {vs : List V} (h : H a = some (.tup (x :: vs))) (q : ∀ p, H p = none → Q (.ref p) (upd H p (.tup vs))) : rSlT K (.ref a) (some 1) none H Q := by
  refine ⟨a, _, rfl, SqT.of h, ?_, ?_⟩
  · intro ⟨z, _⟩
    have e1 : HT.sIx (x :: vs).length 0 (some 1) = 1 := by
      show min 1 (vs.length + 1) = 1
      omega
    rw [e1] at z; cases z
  · rw [cut1]; exact q
theorem But.same {s : Addr} {H H' : Hp} (b : But s H H') {H0 : Hp} (k : Same H0 H) (n : H0 s = none) : Same H0 H' := fun a o e => b a o (k a o e) (ne_of_none e n)
theorem But.upd {s : Addr} {H H' : Hp} (b : But s H H') (o : HO) : But s H (upd H' s o) := b.trans (but_upd o)
theorem but_tu {s : Addr} {H H' : Hp} (b : But s H H') (h : ∀ xs, H s ≠ some (.tup xs)) : Tu H H' := fun a xs e => b a _ e fun z => by
  rw [z] at e; exact h _ e
theorem lst_not_tup {H : Hp} {p : Addr} {ys : List V} (h : H p = some (.lst ys)) : ∀ xs, H p ≠ some (.tup xs) := fun xs e => by
  rw [h] at e; cases e
theorem TmIn.dep_arg {f : Str} {ts : List Tm} {t : Tm} {N : Nat} (h : (Tm.app f ts).dep ≤ N + 1) (m : t ∈ ts) : t.dep ≤ N := by
  have h : 1 + Tm.deps ts ≤ N + 1 := h
  have := Tm.dep_of_mem m
  omega
theorem Tm.len_le : ∀ ts : List Tm, ts.length ≤ Tm.szs ts
  | [] => Nat.le_refl _
  | u :: us => by
    have h1 := u.sz_pos
    have h2 := Tm.len_le us
    show us.length + 1 ≤ u.sz + Tm.szs us
    omega
theorem Tm.sz_arg : ∀ {ts : List Tm} {t : Tm}, t ∈ ts → t.sz ≤ Tm.szs ts
  | u :: us, t, h => by
    show t.sz ≤ u.sz + Tm.szs us
    rcases List.mem_cons.mp h with e | h
    · rw [e]; omega
    · have := Tm.sz_arg h; omega
end J
/-! ### tests by their meaning -/
namespace J
open PySem L2
theorem ifD {p : Prop} [Decidable p] {A B : Prop} (h1 : p → A) (h2 : ¬ p → B) : if decide p = true then A else B := ite2 (fun e => h1 (of_decide_eq_true e)) fun e => h2 fun z => e (decide_eq_true z)
theorem ifN {p : Prop} [Decidable p] {A B : Prop} (h1 : ¬ p → A) (h2 : p → B) : if (!decide p) = true then A else B := by
  by_cases h : p
  · rw [decide_eq_true h]; exact h2 h
  · rw [decide_eq_false h]; exact h1 h
theorem ifEq {i j : Int} {A B : Prop} (h1 : i = j → A) (h2 : i ≠ j → B) : if decide (V.int i = V.int j) = true then A else B := ifD (fun e => h1 (by injection e)) fun e => h2 fun z => e (by rw [z])
theorem ifNe {i j : Int} {A B : Prop} (h1 : i ≠ j → A) (h2 : i = j → B) : if (!decide (V.int i = V.int j)) = true then A else B := ifN (fun e => h1 fun z => e (by rw [z])) fun e => h2 (by injection e)
theorem ifEqS {i j : Str} {A B : Prop} (h1 : i = j → A) (h2 : i ≠ j → B) : if decide (V.str i = V.str j) = true then A else B := ifD (fun e => h1 (by injection e)) fun e => h2 fun z => e (by rw [z])
theorem ifNeS {i j : Str} {A B : Prop} (h1 : i ≠ j → A) (h2 : i = j → B) : if (!decide (V.str i = V.str j)) = true then A else B := ifN (fun e => h1 fun z => e (by rw [z])) fun e => h2 (by injection e)
theorem ifB {b : Bool} {A B : Prop} (h1 : b = true → A) (h2 : b = false → B) : if b = true then A else B := ite2 h1 fun e => h2 (by cases b; rfl; exact absurd rfl e)
theorem ifNB {b : Bool} {A B : Prop} (h1 : b = false → A) (h2 : b = true → B) : if (!b) = true then A else B := by
  cases b with
  | true => exact h2 rfl
  | false => exact h1 rfl
theorem list_take_succ {α : Type} {l : List α} {i : Nat} {x : α} (h : l[i]? = some x) : l.take (i + 1) = l.take i ++ [x] := by
  rw [List.take_succ, h]; rfl
end J
namespace J
open PySem L2
mutual
theorem Tm.wf_mono {fs : List Str} {B B' : Int} (h : B ≤ B') : ∀ t : Tm, t.wf fs B → t.wf fs B'
  | .var n, w => by
    have w : 0 ≤ n ∧ n < B := w
    exact ⟨w.1, by omega⟩
  | .app f ts, w => ⟨w.1, Tm.wfs_mono h ts w.2⟩
theorem Tm.wfs_mono {fs : List Str} {B B' : Int} (h : B ≤ B') : ∀ ts : List Tm, Tm.wfs fs B ts → Tm.wfs fs B' ts
  | [], _ => True.intro
  | t :: ts, w => ⟨Tm.wf_mono h t w.1, Tm.wfs_mono h ts w.2⟩
end
theorem Tm.wf.mono {fs : List Str} {B B' : Int} {t : Tm} (w : t.wf fs B) (h : B ≤ B') : t.wf fs B' := Tm.wf_mono h t w
end J

/-! ### texts as lists of signs -/
namespace J
open PySem L2

theorem len_tl (x : Str) : x.length = x.cps.toList.length := by
  show x.cps.size = _
  rw [Array.length_toList]
theorem tl_inj {x y : Str} (h : x.cps.toList = y.cps.toList) : x = y := by
  cases x; cases y
  exact congrArg Str.mk (Array.toList_inj.mp h)
theorem tl_app (x y : Str) : (x ++ y).cps.toList = x.cps.toList ++ y.cps.toList := TL.tl_append x y
theorem len_app (x y : Str) : (x ++ y).length = x.length + y.length := by
  rw [len_tl, tl_app, List.length_append, ← len_tl, ← len_tl]
/-- texts joined by nothing -/
theorem join0 : ∀ zs : List Str, (Txt.join "" zs).cps.toList = (zs.map fun z => z.cps.toList).flatten := by
  intro zs
  rw [TL.join_eq]
  show TL.tl (Str.join "" zs) = _
  rw [TL.tl_join]
  have e : TL.tl ("" : Str) = [] := rfl
  rw [e]
  induction zs with
  | nil => rfl
  | cons a r ih =>
    cases r with
    | nil => simp [TL.joinL]
    | cons b r => 
      show TL.tl a ++ ([] ++ TL.joinL [] (TL.tl b :: r.map TL.tl)) = _
      rw [List.nil_append, List.map_cons, List.flatten_cons, ← ih]
      rfl
theorem abc : ∀ k : Nat, k < 26 → ("abcdefghijklmnopqrstuvwxyz" : Str).cps.toList[k]? = some (97 + k) := by decide +kernel
theorem abc_at {r : Int} (h0 : 0 ≤ r) (h1 : r < 26) : atI ("abcdefghijklmnopqrstuvwxyz" : Str).cps.toList r = some (97 + r.toNat) := by
  have q := atI_nat (abc r.toNat (by omega))
  rw [Int.toNat_of_nonneg h0] at q
  exact q
theorem low_one {k : Nat} (h : k < 26) : Low ⟨#[97 + k]⟩ := fun c hc => by
  have hc : c ∈ [97 + k] := hc
  rw [List.mem_singleton] at hc
  omega
theorem low_app {x y : Str} (a : Low x) (b : Low y) : Low (x ++ y) := fun c hc => by
  rw [tl_app] at hc
  rcases List.mem_append.mp hc with h | h
  · exact a c h
  · exact b c h
theorem join_low {zs : List Str} (h : ∀ z ∈ zs, z.length = 1 ∧ Low z) : (Txt.join "" zs).length = zs.length ∧ Low (Txt.join "" zs) := by
  refine ⟨?_, fun c hc => ?_⟩
  · rw [len_tl, join0]
    induction zs with
    | nil => rfl
    | cons a r ih =>
      rw [List.map_cons, List.flatten_cons, List.length_append, ih fun z hz => h z (List.mem_cons_of_mem _ hz), ← len_tl, (h a (List.mem_cons_self ..)).1, List.length_cons]
      omega
  · rw [join0] at hc
    obtain ⟨l, hl, hc⟩ := List.mem_flatten.mp hc
    obtain ⟨z, hz, rfl⟩ := List.mem_map.mp hl
    exact (h z hz).2 c hc
theorem sum_ones {zs : List Str} (h : ∀ z ∈ zs, z.length = 1) : (zs.map (·.length)).sum = zs.length := by
  induction zs with
  | nil => rfl
  | cons a r ih =>
    rw [List.map_cons, List.sum_cons, ih fun z hz => h z (List.mem_cons_of_mem _ hz), h a (List.mem_cons_self ..), List.length_cons]
    omega
/-- the k-th drawn name -/
def nameAt (b e : Str) (f : Nat) (k : Nat) : Str := b ++ (⟨#[97 + (f + 3 * k) % 26]⟩ : Str) ++ e
theorem nameAt_len (b e : Str) (f k : Nat) : (nameAt b e f k).length = b.length + 1 + e.length := by
  unfold nameAt; rw [len_app, len_app]; rfl
theorem nameAt_low {b e : Str} (hb : Low b) (he : Low e) (f k : Nat) : Low (nameAt b e f k) := low_app (low_app hb (low_one (Nat.mod_lt _ (by decide)))) he
theorem nameAt_inj {b e : Str} {f i j : Nat} (hi : i < 26) (hj : j < 26) (h : nameAt b e f i = nameAt b e f j) : i = j := by
  have h1 : (nameAt b e f i).cps.toList = (nameAt b e f j).cps.toList := by rw [h]
  unfold nameAt at h1
  rw [tl_app, tl_app, tl_app, tl_app] at h1
  have h2 := List.append_cancel_right h1
  have h3 := List.append_cancel_left h2
  have h4 : 97 + (f + 3 * i) % 26 = 97 + (f + 3 * j) % 26 := by
    have h3 : [97 + (f + 3 * i) % 26] = [97 + (f + 3 * j) % 26] := h3
    injection h3
  omega
theorem names_ok {b e : Str} {f m : Nat} (hb : Low b) (he : Low e) (lb : b.length ≤ 3) (le : e.length ≤ 3) (hm : m ≤ 26) : Names ((List.range m).map (nameAt b e f)) := by
  refine ⟨fun x hx => ?_, fun x hx => ?_, fun x hx => ?_, ?_⟩
  · obtain ⟨k, _, rfl⟩ := List.mem_map.mp hx
    exact nameAt_low hb he f k
  · obtain ⟨k, _, rfl⟩ := List.mem_map.mp hx
    rw [nameAt_len]; omega
  · obtain ⟨k, _, rfl⟩ := List.mem_map.mp hx
    rw [nameAt_len]; omega
  · refine List.nodup_iff_pairwise_ne.mpr (List.pairwise_map.mpr ?_)
    refine (List.nodup_iff_pairwise_ne.mp List.nodup_range).imp_of_mem ?_
    intro i j hi hj ne h
    exact ne (nameAt_inj (by have := List.mem_range.mp hi; omega) (by have := List.mem_range.mp hj; omega) h)
end J

/-! ### symbols, variables, substitutions -/
namespace J
open PySem L2
mutual
def syms : Tm → List V
  | .var n => [.int n]
  | .app f ts => .str f :: symss ts
def symss : List Tm → List V
  | [] => []
  | t :: ts => syms t ++ symss ts
end
mutual
/-- the occurrences of variables, from left to right -/
def occ : Tm → List Int
  | .var n => [n]
  | .app _ ts => occs ts
def occs : List Tm → List Int
  | [] => []
  | t :: ts => occ t ++ occs ts
end
/-- one by one, what is not there yet -/
def adds (acc : List Int) : List Int → List Int
  | [] => acc
  | n :: r => adds (if n ∈ acc then acc else acc ++ [n]) r
def vars (t : Tm) : List Int := adds [] (occ t)
theorem adds_app : ∀ (l1 l2 acc : List Int), adds acc (l1 ++ l2) = adds (adds acc l1) l2
  | [], _, _ => rfl
  | n :: r, l2, acc => by show adds _ (r ++ l2) = adds (adds _ r) l2; rw [adds_app r l2]
theorem adds_mem : ∀ (l acc : List Int) {n : Int}, n ∈ adds acc l ↔ n ∈ acc ∨ n ∈ l
  | [], acc, n => by show n ∈ acc ↔ _; simp
  | k :: r, acc, n => by
    show n ∈ adds _ r ↔ _
    rw [adds_mem r]
    by_cases h : k ∈ acc
    · rw [if_pos h, List.mem_cons]
      constructor
      · rintro (a | a)
        · exact .inl a
        · exact .inr (.inr a)
      · rintro (a | a | a)
        · exact .inl a
        · exact .inl (a ▸ h)
        · exact .inr a
    · rw [if_neg h, List.mem_append, List.mem_singleton, List.mem_cons]
      constructor
      · rintro ((a | a) | a)
        · exact .inl a
        · exact .inr (.inl a)
        · exact .inr (.inr a)
      · rintro (a | a | a)
        · exact .inl (.inl a)
        · exact .inl (.inr a)
        · exact .inr a
theorem adds_nodup : ∀ (l acc : List Int), acc.Nodup → (adds acc l).Nodup
  | [], _, h => h
  | k :: r, acc, h => by
    show (adds _ r).Nodup
    refine adds_nodup r _ ?_
    by_cases hk : k ∈ acc
    · rw [if_pos hk]; exact h
    · rw [if_neg hk]
      refine List.nodup_append.mpr ⟨h, (by simp), fun a ha b hb => ?_⟩
      rw [List.mem_singleton] at hb
      exact fun e => hk (by rw [← hb, ← e]; exact ha)
theorem adds_two : ∀ (l b acc : List Int), adds acc (adds b l) = adds (adds acc b) l
  | [], _, _ => rfl
  | n :: r, b, acc => by
    show adds acc (adds _ r) = adds _ r
    rw [adds_two r]
    by_cases h : n ∈ b
    · rw [if_pos h, if_pos ((adds_mem b acc).mpr (.inr h))]
    · rw [if_neg h, adds_app]
      rfl
theorem adds_len : ∀ (l acc : List Int), (adds acc l).length ≤ acc.length + l.length
  | [], _ => Nat.le_refl _
  | n :: r, acc => by
    have := adds_len r (if n ∈ acc then acc else acc ++ [n])
    show (adds _ r).length ≤ acc.length + (r.length + 1)
    have h2 : (if n ∈ acc then acc else acc ++ [n]).length ≤ acc.length + 1 := by
      by_cases h : n ∈ acc
      · rw [if_pos h]; omega
      · rw [if_neg h, List.length_append]; exact Nat.le_refl _
    omega
def intsOf (l : List V) : List Int := l.filterMap fun v => match v with | .int n => some n | _ => none
theorem intsOf_app (a b : List V) : intsOf (a ++ b) = intsOf a ++ intsOf b := List.filterMap_append ..
mutual
theorem ints_syms : ∀ t : Tm, intsOf (syms t) = occ t
  | .var n => rfl
  | .app f ts => by show intsOf (symss ts) = occs ts; exact ints_symss ts
theorem ints_symss : ∀ ts : List Tm, intsOf (symss ts) = occs ts
  | [] => rfl
  | t :: ts => by show intsOf (syms t ++ symss ts) = occ t ++ occs ts; rw [intsOf_app, ints_syms t, ints_symss ts]
end
mutual
theorem syms_len : ∀ t : Tm, (syms t).length = t.sz
  | .var _ => rfl
  | .app f ts => by show (symss ts).length + 1 = 1 + Tm.szs ts; rw [symss_len ts]; omega
theorem symss_len : ∀ ts : List Tm, (symss ts).length = Tm.szs ts
  | [] => rfl
  | t :: ts => by show (syms t ++ symss ts).length = t.sz + Tm.szs ts; rw [List.length_append, syms_len t, symss_len ts]
end
mutual
theorem occ_len : ∀ t : Tm, (occ t).length ≤ t.sz
  | .var _ => Nat.le_refl _
  | .app f ts => by show (occs ts).length ≤ 1 + Tm.szs ts; have := occs_len ts; omega
theorem occs_len : ∀ ts : List Tm, (occs ts).length ≤ Tm.szs ts
  | [] => Nat.le_refl _
  | t :: ts => by show (occ t ++ occs ts).length ≤ t.sz + Tm.szs ts; have := occ_len t; have := occs_len ts; rw [List.length_append]; omega
end
theorem symss_app : ∀ a b : List Tm, symss (a ++ b) = symss a ++ symss b
  | [], _ => rfl
  | t :: ts, b => by show syms t ++ symss (ts ++ b) = (syms t ++ symss ts) ++ symss b; rw [symss_app ts b, List.append_assoc]
theorem szs_app : ∀ a b : List Tm, Tm.szs (a ++ b) = Tm.szs a + Tm.szs b
  | [], _ => by show _ = 0 + _; rw [Nat.zero_add]; rfl
  | t :: ts, b => by show t.sz + Tm.szs (ts ++ b) = (t.sz + Tm.szs ts) + Tm.szs b; rw [szs_app ts b]; omega
theorem szs_rev : ∀ a : List Tm, Tm.szs a.reverse = Tm.szs a
  | [] => rfl
  | t :: ts => by
    rw [List.reverse_cons, szs_app, szs_rev ts]
    show Tm.szs ts + (t.sz + 0) = t.sz + Tm.szs ts
    omega
theorem TmsIn.rev {H : Hp} : ∀ {ts : List Tm} {vs : List V}, TmsIn H ts vs → TmsIn H ts.reverse vs.reverse
  | [], _, h => by cases (show _ = [] from h); rfl
  | t :: ts, _, ⟨v, r, rfl, h, q⟩ => by
    rw [List.reverse_cons, List.reverse_cons]
    exact TmsIn.append (TmsIn.rev q) (TmsIn.one h)
theorem TmsIn.snoc {H : Hp} {ts : List Tm} {vs : List V} {v : V} (h : TmsIn H ts vs) (e : vs[vs.length - 1]? = some v) : ∃ us t, ts = us ++ [t] ∧ TmIn H t v ∧ TmsIn H us vs.dropLast := by
  have hl := h.length
  rcases List.eq_nil_or_concat ts with z | ⟨us, t, z⟩
  · subst z
    have : vs = [] := List.length_eq_zero_iff.mp (by rw [hl]; rfl)
    subst this
    simp at e
  · rw [List.concat_eq_append] at z
    subst z
    have hn : vs ≠ [] := fun w => by rw [w] at hl; simp at hl
    have e2 : vs = vs.dropLast ++ [v] := by
      have h1 := List.dropLast_concat_getLast hn
      have h2 : vs.getLast hn = v := by
        rw [List.getLast_eq_getElem]
        have := List.getElem?_eq_some_iff.mp e
        exact this.2
      rw [h2] at h1
      exact h1.symm
    have key : ∀ (us : List Tm) (ws : List V) (t : Tm) (v : V), us.length = ws.length → TmsIn H (us ++ [t]) (ws ++ [v]) → TmIn H t v ∧ TmsIn H us ws := by
      intro us
      induction us with
      | nil =>
        intro ws t v hl q
        have : ws = [] := List.length_eq_zero_iff.mp hl.symm
        subst this
        obtain ⟨a, r, e, h1, _⟩ := q
        injection e with e _
        exact ⟨e ▸ h1, rfl⟩
      | cons u us ih =>
        intro ws t v hl q
        match ws, hl with
        | w :: ws, hl =>
          obtain ⟨a, r, e, h1, h2⟩ := q
          injection e with e1 e2
          subst e1
          have := ih ws t v (by simpa using hl) (by rw [← e2] at h2; exact h2)
          exact ⟨this.1, w, ws, rfl, h1, this.2⟩
    rw [e2] at h
    have hl2 : us.length = vs.dropLast.length := by rw [List.length_dropLast, hl, List.length_append]; simp
    have q := key us _ t v hl2 h
    exact ⟨us, t, rfl, q.1, q.2⟩
mutual
theorem Tm.dep_le_sz : ∀ t : Tm, t.dep ≤ t.sz
  | .var _ => Nat.le_refl _
  | .app _ ts => by show 1 + Tm.deps ts ≤ 1 + Tm.szs ts; have := Tm.deps_le_szs ts; omega
theorem Tm.deps_le_szs : ∀ ts : List Tm, Tm.deps ts ≤ Tm.szs ts
  | [] => Nat.le_refl _
  | t :: ts => by show max t.dep (Tm.deps ts) ≤ t.sz + Tm.szs ts; have := Tm.dep_le_sz t; have := Tm.deps_le_szs ts; omega
end
theorem occs_app : ∀ a b : List Tm, occs (a ++ b) = occs a ++ occs b
  | [], _ => rfl
  | t :: ts, b => by show occ t ++ occs (ts ++ b) = (occ t ++ occs ts) ++ occs b; rw [occs_app ts b, List.append_assoc]
theorem szs_take (ts : List Tm) (i : Nat) : Tm.szs (ts.take i) ≤ Tm.szs ts := by
  have h := szs_app (ts.take i) (ts.drop i)
  rw [List.take_append_drop] at h
  omega
theorem map_get {l : List Int} {i : Nat} {y : V} (h : (l.map V.int)[i]? = some y) : ∃ n, l[i]? = some n ∧ y = .int n := by
  rw [List.getElem?_map] at h
  cases e : l[i]? with
  | none => rw [e] at h; cases h
  | some n => rw [e] at h; exact ⟨n, rfl, (Option.some.inj h).symm⟩
theorem inV_ints (n : Int) : ∀ l : List Int, inV (.int n) (l.map V.int) = decide (n ∈ l) := by
  intro l
  unfold inV
  rw [List.any_map]
  refine Bool.eq_iff_iff.mpr ?_
  rw [List.any_eq_true, decide_eq_true_iff]
  constructor
  · rintro ⟨x, hx, e⟩
    have e : (x == n) = true := e
    rw [← eq_of_beq e]; exact hx
  · intro h
    exact ⟨n, h, beq_self_eq_true n⟩
mutual
theorem syms_kind : ∀ (t : Tm) (y : V), y ∈ syms t → (∃ n, y = .int n) ∨ ∃ f, y = .str f
  | .var n, y, h => .inl ⟨n, by simpa [syms] using h⟩
  | .app f ts, y, h => by
    rcases List.mem_cons.mp (show y ∈ V.str f :: symss ts from h) with e | h
    · exact .inr ⟨f, e⟩
    · exact symss_kind ts y h
theorem symss_kind : ∀ (ts : List Tm) (y : V), y ∈ symss ts → (∃ n, y = .int n) ∨ ∃ f, y = .str f
  | [], _, h => nomatch h
  | t :: ts, y, h => by
    rcases List.mem_append.mp (show y ∈ syms t ++ symss ts from h) with h | h
    · exact syms_kind t y h
    · exact symss_kind ts y h
end
/-- a dict of True by ints -/
def kd (l : List Int) : List (Key × V) := l.map fun n => (.inl n, .bl true)
theorem kd_val (l : List Int) (n : Int) : valV (kd l) (.inl n) = if n ∈ l then some (.bl true) else none := by
  induction l with
  | nil => rfl
  | cons a r ih =>
    by_cases h : a = n
    · subst h
      rw [if_pos (List.mem_cons_self ..)]
      exact valV_pos (p := ((.inl a : Key), V.bl true)) rfl
    · have e : ¬ ((Sum.inl a : Key) = .inl n) := fun z => h (Sum.inl.inj z)
      show valV (((.inl a : Key), V.bl true) :: kd r) (.inl n) = _
      rw [valV_neg e, ih]
      by_cases h2 : n ∈ r
      · rw [if_pos h2, if_pos (List.mem_cons_of_mem _ h2)]
      · rw [if_neg h2, if_neg fun z => (List.mem_cons.mp z).elim (fun z => h z.symm) h2]
theorem kd_put (l : List Int) (n : Int) : putK (kd l) (.inl n) (.bl true) = kd (if n ∈ l then l else l ++ [n]) := by
  by_cases h : n ∈ l
  · rw [if_pos h]
    unfold putK
    rw [if_pos (by rw [valV_any, kd_val, if_pos h]; rfl)]
    unfold kd
    rw [List.map_map]
    refine List.map_congr_left fun a _ => ?_
    show (if (Sum.inl a : Key) = .inl n then ((Sum.inl a : Key), V.bl true) else _) = _
    by_cases e : (Sum.inl a : Key) = .inl n
    · rw [if_pos e]
    · rw [if_neg e]
  · rw [if_neg h, putK_new _ (by rw [kd_val, if_neg h])]
    unfold kd
    rw [List.map_append]; rfl
theorem kd_len (l : List Int) : (kd l).length = l.length := List.length_map _

/-! substitutions -/
mutual
def sub (m : Int → Option Tm) : Tm → Tm
  | .var n => (m n).getD (.var n)
  | .app f ts => .app f (subs m ts)
def subs (m : Int → Option Tm) : List Tm → List Tm
  | [] => []
  | t :: ts => sub m t :: subs m ts
end
theorem subs_map (m : Int → Option Tm) : ∀ ts, subs m ts = ts.map (sub m)
  | [] => rfl
  | t :: ts => by show sub m t :: subs m ts = _; rw [subs_map m ts]; rfl
/-- the dict at d says what m says -/
def SbIn (H : Hp) (d : Addr) (m : Int → Option Tm) : Prop := ∃ kvs : List (Key × V), H d = some (.dK kvs) ∧ ∀ n, match m n with
  | none => valV kvs (.inl n) = none
  | some t => ∃ v, valV kvs (.inl n) = some v ∧ TmIn H t v
theorem SbIn.mono {H H' : Hp} {d : Addr} {m : Int → Option Tm} (h : SbIn H d m) (t : Tu H H') (e : ∀ kvs, H d = some (.dK kvs) → H' d = some (.dK kvs)) : SbIn H' d m := by
  obtain ⟨kvs, h1, h2⟩ := h
  refine ⟨kvs, e _ h1, fun n => ?_⟩
  have := h2 n
  cases hm : m n with
  | none => rw [hm] at this; exact this
  | some u =>
    rw [hm] at this
    obtain ⟨v, a, b⟩ := this
    exact ⟨v, a, b.tu t⟩
theorem SbIn.same {H H' : Hp} {d : Addr} {m : Int → Option Tm} (h : SbIn H d m) (s : Same H H') : SbIn H' d m := h.mono (tu_same s) fun _ e => s _ _ e
theorem SbIn.at {H : Hp} {d : Addr} {m : Int → Option Tm} (h : SbIn H d m) : ∃ kvs, H d = some (.dK kvs) := let ⟨k, e, _⟩ := h; ⟨k, e⟩
/-- d.get(n, n) -/
theorem SbIn.get {H : Hp} {d : Addr} {m : Int → Option Tm} (h : SbIn H d m) (n : Int) : ∃ o, DGet H d (.int n) o ∧ TmIn H ((m n).getD (.var n)) (o.getD (.int n)) := by
  obtain ⟨kvs, h1, h2⟩ := h
  have := h2 n
  refine ⟨valV kvs (.inl n), DGet.k (k := Sum.inl n) h1, ?_⟩
  cases hm : m n with
  | none => rw [hm] at this; rw [this]; rfl
  | some u =>
    rw [hm] at this
    obtain ⟨v, a, b⟩ := this
    rw [a]; exact b
theorem SbIn.put {H : Hp} {d : Addr} {m : Int → Option Tm} {kvs : List (Key × V)} (h1 : H d = some (.dK kvs)) (h2 : ∀ n, match m n with | none => valV kvs (.inl n) = none | some t => ∃ v, valV kvs (.inl n) = some v ∧ TmIn H t v)
    {H' : Hp} (tu : Tu H H') {k : Int} {t : Tm} {v : V} (ht : TmIn H' t v) (e : H' d = some (.dK (putK kvs (.inl k) v))) : SbIn H' d (fun n => if n = k then some t else m n) := by
  refine ⟨_, e, fun n => ?_⟩
  have := h2 n
  rw [valV_put]
  by_cases hn : n = k
  · subst hn
    simp only [if_true]
    exact ⟨v, rfl, ht⟩
  · have hn' : ¬ ((Sum.inl n : Key) = .inl k) := fun z => hn (Sum.inl.inj z)
    simp only [if_neg hn, if_neg hn']
    cases hm : m n with
    | none => rw [hm] at this; exact this
    | some u =>
      rw [hm] at this
      obtain ⟨w, a, b⟩ := this
      exact ⟨w, a, b.tu tu⟩

/-! while xs: -/
theorem while_list {K : PySem.W.Frag} {i : Nat} {tb : TS} {D : Ends} {σ : L2.St} {H : Hp} (Pv : L2.St → Hp → Prop) (μ : L2.St → Hp → Nat) (h0 : Pv σ H)
    (hs : ∀ σ H, Pv σ H → ∃ p xs, σ[i]? = some (some (.ref p)) ∧ H p = some (.lst xs) ∧ (xs = [] → D.nx σ H) ∧ (xs ≠ [] → tb { D with nx := fun σ' H' => Pv σ' H' ∧ μ σ' H' < μ σ H, ct := fun σ' H' => Pv σ' H' ∧ μ σ' H' < μ σ H, bk := D.nx } σ H)) :
    tWhile (fun σ H Q => tVar i σ H fun x H' => ∃ k, TruV K x H' k ∧ Q k H') tb D σ H := by
  refine while_by Pv μ h0 (fun σ H p => ?_) fun σ H Q Q' m ⟨v, e, k, t, q⟩ => ⟨v, e, k, t, m _ _ q⟩
  obtain ⟨a, xs, e, hp, h1, h2⟩ := hs σ H p
  refine ⟨_, e, _, .inl ⟨xs, SqL.of hp, rfl⟩, ?_⟩
  cases xs with
  | nil => exact h1 rfl
  | cons x xs => exact h2 (List.cons_ne_nil _ _)
end J

/-! ### rules of our own: a list extended by a tuple, t[:0:-1] -/
namespace J
open PySem L2 PyProof.Rows
section
open PySem PySem.Builtin
theorem ext_tup (l : Addr) (xs : Array Value) (n : Nat) (b : Addr) (ys : Array Value) (m : Nat) (d : Option Addr) (sl : Array (Option Value))
    (h0 : ¬(!xs.isEmpty && Builtin.List.listTooLong (xs.size + ys.size)) = true) (h1 : xs.size ≤ sizeLine) (h2 : xs.size + ys.size ≤ sizeLine + 1) :
    Meets (Builtin.«list.extend» ⟨[.ref l, .ref b], []⟩) (fun _ R s => s.heap.get? l = some ⟨.type "list", none, .seq xs n, #[]⟩ ∧ s.heap.get? b = some ⟨.type "tuple", d, .seq ys m, sl⟩ ∧
      R (.ok (.ret Value.none)) { s with heap := s.heap.update l (Obj.mapSeq fun x => x ++ ys), toks := s.toks }) := by
  refine .of_wp fun prog w A R s h => ?_
  obtain ⟨hp, g, dd, tk, os⟩ := s
  obtain ⟨hl, hb, h⟩ := h
  have f1 := AutoSeq1.idx_int
  have f2 := AutoSeq1.sub_tuple_tuple
  have f4 := AutoSeq1.sub_tuple_list
  have f5 := AutoSeq1.sub_list_tuple
  have f3 := AutoSeq1.sub_list_list
  have hz' : (xs ++ ys).size ≤ sizeLine + 1 := by rw [Array.size_append]; exact h2
  wp_walk using (wpAny_updateSeq hl rfl (hz := h1) (_hz' := hz')), AutoSeq1.wpAny_loadPart' hl, AutoSeq1.wpAny_loadPart' hb
  exact ⟨_, rfl, h⟩
end
def rExtT (K : PySem.W.Frag) : V → List V → Hp → VK → Prop := fun x vs H Q => ∃ l b xs zs, x = .ref l ∧ vs = [.ref b] ∧ H l = some (.lst xs) ∧ SqT K H b zs ∧ xs.length + zs.length ≤ sizeLine ∧ Q .non (upd H l (.lst (xs ++ zs)))
section
variable {X : Cx}
theorem mt_extT : MtM X "list.extend" (rExtT X.K) := by
  intro pins s σ H x vs v us Q I rx rv h
  obtain ⟨l, b, xs, zs, rfl, rfl, hH, hB, hz, q⟩ := h
  cases rx
  obtain ⟨u, rfl, ru⟩ := rv.one
  cases ru
  obtain ⟨_, its, n, r, hl, e⟩ := I.lstM hH
  obtain ⟨its2, r2, ⟨o, ho, hc, m, hd⟩, _⟩ := I.tuple hB
  have hl2 := r2.length
  obtain ⟨oc, od, oda, osl⟩ := o
  cases hc
  cases hd
  have sz : its.toArray.size + its2.toArray.size ≤ sizeLine := by rw [List.size_toArray, List.size_toArray, ← hl, ← hl2]; exact hz
  have door : ¬ (!its.toArray.isEmpty && Builtin.List.listTooLong (its.toArray.size + its2.toArray.size)) = true := by
    rw [notLongL sz, Bool.and_false]; exact Bool.false_ne_true
  refine call_meets F.slot_list_extend ⟨_, e, rfl⟩ F.entry_list_extend (F.args_list_extend_2 _ _) (ext_tup l its.toArray n b its2.toArray m od osl door (by omega) (by omega)) ⟨e, ho, ?_⟩
  refine ⟨.non, _, I.lset (its' := its ++ its2) hH e (by simp) (r.append r2) ?_, rfl, q⟩
  rw [List.length_append]; exact hz
end

/-! t[:0:-1] -/
theorem adj_rev (n : Nat) : Builtin.Slice.sliceAdjust none (some 0) (-1) ((n + 1 : Nat) : Int) = ((n : Int), 0) := by
  unfold Builtin.Slice.sliceAdjust
  simp only [show ((-1 : Int) < 0) = True from eq_true (by decide), if_true]
  have e1 : ¬ ((0 : Int) < 0) := by decide
  rw [if_neg e1]
  refine Prod.ext ?_ ?_
  · show ((n + 1 : Nat) : Int) - 1 = n
    omega
  · show min (0 : Int) (((n + 1 : Nat) : Int) - 1) = 0
    omega
theorem places_rev (n : Nat) : Builtin.Slice.slicePlaces (n : Int) 0 (-1) = n := by
  unfold Builtin.Slice.slicePlaces
  rw [if_neg (by decide : ¬ ((-1 : Int) > 0))]
  by_cases h : (n : Int) > 0
  · rw [if_pos h, show (- -1 : Int) = 1 by decide, Int.ediv_one]
    omega
  · rw [if_neg h]; omega
section
variable {prog : Program} {w : World} {A : Around} {E : Value → Shared → Prop} {s : Shared}
theorem applied_rev {sl : Addr} {vu vs : Value} {n : Nat} {Q : Int × Int × Nat → Shared → Prop} (hs : s.heap.IsSliceOf sl .none vu vs) (pu : IsPart vu (some 0)) (ps : IsPart vs (some (-1)))
    (h : Q ((n : Int), -1, n) s) : wpAny (model prog w) A (Builtin.Slice.sliceApplied (.ref sl) (pure ((n + 1 : Nat) : Int))) Q E s := by
  obtain ⟨os, hos, hcs, hds⟩ := id hs
  unfold Builtin.Slice.sliceApplied Builtin.Slice.sliceFields
  refine wpAny_bind (wpAny_bind (wpAny_field hos hds (x := .none) rfl (wpAny_bind (wpAny_field hos hds (x := vu) rfl (wpAny_bind (wpAny_field hos hds (x := vs) rfl (wpAny_pure ?_)))))))
  refine wpAny_bind (HT.slicePart_ ps ?_)
  show wpAny _ _ (if ((-1 : Int) == 0) = true then _ else _) _ _ s
  rw [if_neg (by decide)]
  refine wpAny_bind (slicePart_none (wpAny_bind (HT.slicePart_ pu (wpAny_bind (wpAny_pure ?_)))))
  show wpAny _ _ (match Builtin.Slice.sliceAdjust none (some 0) (-1) ((n + 1 : Nat) : Int) with | (lo, hi) => pure (lo, (-1 : Int), Builtin.Slice.slicePlaces lo hi (-1))) _ _ s
  rw [adj_rev]
  show wpAny _ _ (pure ((n : Int), (-1 : Int), Builtin.Slice.slicePlaces (n : Int) 0 (-1))) _ _ s
  rw [places_rev]
  exact wpAny_pure h
theorem fm_congr {α β : Type} {f g : α → Option β} : ∀ {l : List α}, (∀ k ∈ l, f k = g k) → l.filterMap f = l.filterMap g
  | [], _ => rfl
  | a :: l, h => by
    rw [List.filterMap_cons, List.filterMap_cons, h a (List.mem_cons_self ..), fm_congr fun k hk => h k (List.mem_cons_of_mem _ hk)]
theorem pick_rev (x : Value) (xs : List Value) : ((List.range xs.length).filterMap fun (k : Nat) => (x :: xs).toArray[((xs.length : Int) + (k : Int) * -1).toNat]?) = xs.reverse := by
  have e : ∀ (l : List Nat), (∀ k ∈ l, k < xs.length) → (l.filterMap fun (k : Nat) => (x :: xs).toArray[((xs.length : Int) + (k : Int) * -1).toNat]?) = l.filterMap fun k => xs[xs.length - 1 - k]? := by
    intro l hl
    refine fm_congr fun k hk => ?_
    have h1 := hl k hk
    have e1 : ((xs.length : Int) + (k : Int) * -1).toNat = (xs.length - 1 - k) + 1 := by omega
    rw [e1]
    show ((x :: xs).toArray[(xs.length - 1 - k) + 1]?) = _
    rw [List.getElem?_toArray, List.getElem?_cons_succ]
  rw [e _ fun k hk => List.mem_range.mp hk]
  have e2 : ∀ (l : List Nat), (∀ k ∈ l, k < xs.length) → (l.filterMap fun k => xs[xs.length - 1 - k]?) = l.filterMap fun k => xs.reverse[k]? := by
    intro l hl
    refine fm_congr fun k hk => ?_
    rw [List.getElem?_reverse (hl k hk)]
  rw [e2 _ fun k hk => List.mem_range.mp hk]
  have e3 : ∀ (ys : List Value), ((List.range ys.length).filterMap fun k => ys[k]?) = ys := by
    intro ys
    have := PySem.W.krv_all ys.toArray
    simpa using this
  have := e3 xs.reverse
  rwa [List.length_reverse] at this
theorem item_rev {t sl : Addr} {x : Value} {xs : List Value} {vu vs : Value} {Q : Value → Shared → Prop} (ht : IsTup s.heap t (x :: xs).toArray) (hs : s.heap.IsSliceOf sl .none vu vs) (pu : IsPart vu (some 0)) (ps : IsPart vs (some (-1)))
    (h : Q (.ref s.heap.objs.size) { s with heap := s.heap.push { cls := .type "tuple", data := .seq xs.reverse.toArray } }) (hsz : xs.length ≤ sizeLine) : wpAny (model prog w) A (getItem (.ref t) (.ref sl)) Q E s := by
  have htake : sizeOk (.seq xs.reverse.toArray) := by
    show xs.reverse.toArray.size ≤ sizeLine
    rw [List.size_toArray, List.length_reverse]; exact hsz
  obtain ⟨os, hos, hcs, hds⟩ := id hs
  have hTs : s.TypeIs (.ref sl) "slice" := ⟨os, hos, hcs⟩
  unfold getItem
  try with_reducible refine wpAny_holding ?_
  first | refine wpAny_bind (wpAny_pure ?_) | skip
  refine wpAny_bind (wpAny_sequenceKey ht.typeIs (by decide) ?_)
  refine wpAny_bind (wpAny_callSpecial?_slot (name := Str.ofString "__getitem__") ht.typeIs PyProof.Rows.slot_tuple_getitem
    (wpAny_call_entry PyProof.Rows.slot_tuple_getitem ht.typeIs entry_tuple_getitem ?_ (args_tuple_getitem _ _)))
  show wpAny _ _ (Builtin.Tuple.tupleItemsOf (.ref t) >>= _) _ _ s
  refine wpAny_bind (PyProof.Rows.tupleItemsOf_ ht ?_)
  refine wpAny_bind (wpAny_typeOf hTs ?_)
  rw [if_pos (by decide)]
  have e0 : (x :: xs).toArray.size = xs.length + 1 := by rw [List.size_toArray]; rfl
  rw [e0]
  refine wpAny_bind (applied_rev (n := xs.length) hs pu ps ?_)
  have hno : ¬ (((xs.length : Int) == 0 && ((-1 : Int) == 1) && (xs.length == xs.length + 1)) = true) := by
    intro q
    rw [Bool.and_eq_true, Bool.and_eq_true] at q
    exact absurd q.1.2 (by decide)
  show wpAny _ _ (if ((xs.length : Int) == 0 && ((-1 : Int) == 1) && (xs.length == xs.length + 1)) = true then _ else _) _ _ s
  rw [if_neg hno, pick_rev]
  first
    | exact wpAny_bind (m := Builtin.Tuple.tupleExact _) (wpAny_newObj_type (wpAny_pure ⟨_, rfl, wpAny_pure h⟩) htake)
    | exact wpAny_bind (m := Builtin.Tuple.tupleExact _) (wpAny_newObj_type (wpAny_bind (wpAny_pure (wpAny_pure ⟨_, rfl, wpAny_pure h⟩))) htake)
    | exact wpAny_bind (wpAny_bind (m := Builtin.Tuple.tupleExact _) (wpAny_newObj_type (wpAny_pure (wpAny_pure ⟨_, rfl, wpAny_pure h⟩)) htake))
    | exact wpAny_bind (wpAny_bind (m := Builtin.Tuple.tupleExact _) (wpAny_newObj_type (wpAny_pure ⟨_, rfl, wpAny_pure h⟩) htake))
end
def tRevT (K : PySem.W.Frag) (te : TE) : TE := fun σ H Q => te σ H fun x H1 => ∃ a y ys, x = .ref a ∧ SqT K H1 a (y :: ys) ∧ ∀ p, H1 p = none → Q (.ref p) (upd H1 p (.tup ys.reverse))
theorem pe_revT {X : Cx} {e : Expr} {te : TE} {k k0 : Nat} {p0 p1 p2 p3 pos : Pos} (he : PE X e te) : PE X (.Subscript e (.Slice none (some (.Constant (.int 0) k0 p0)) (some (.UnaryOp .USub (.Constant (.int 1) k p1) p2)) p3) pos) (tRevT X.K te) := by
  refine ⟨fun pins s σ H Q I h => ?_⟩
  refine Subscript_ (thn (he.run pins s σ H _ I h) fun v s1 ⟨x, H1, I1, r1, q1⟩ => ?_)
  obtain ⟨a, y, ys, ex, hx, q⟩ := q1
  subst ex
  cases r1
  have hst : PO X (some (.UnaryOp .USub (.Constant (.int 1) k p1) p2)) (tPart (tUn (rU fun i => .int (-i)) (tC (.int 1)))) := po_some (pe_un un_neg pe_int)
  have hup : PO X (some (.Constant (.int 0) k0 p0)) (tPart (tC (.int 0))) := po_some pe_int
  rw [show (Expr.Slice none (some (.Constant (.int 0) k0 p0)) (some (.UnaryOp .USub (.Constant (.int 1) k p1) p2)) p3) = Expr.Slice none (some (.Constant (.int 0) k0 p0)) (some (.UnaryOp .USub (.Constant (.int 1) k p1) p2)) p3 from rfl]
  refine wpAny_Slice (thn (po_none.run pins s1 σ H1 (fun o H2 => o = none ∧ H2 = H1) I1 ⟨rfl, rfl⟩) fun vl s2 ⟨l, H2, I2, pl, el, e2⟩ => ?_)
  subst el e2
  refine thn (hup.run pins s2 σ H2 (fun o H3 => o = some 0 ∧ H3 = H2) I2 ⟨0, rfl, rfl, rfl⟩) fun vu s3 ⟨u, H3, I3, pu, eu, e3⟩ => ?_
  subst eu e3
  refine thn (hst.run pins s3 σ H3 (fun o H4 => o = some (-1) ∧ H4 = H3) I3 ⟨1, rfl, -1, rfl, rfl, rfl⟩) fun vs s4 ⟨o, H4, I4, ps, eo, e4⟩ => ?_
  subst eo e4
  cases pl
  have I5 : Inv X pins σ H4 { s4 with heap := s4.heap.push { cls := .type "slice", data := .fields #[.none, vu, vs] } } := I4.kept (t' := s4.toks) fun b ob q => Heap.get?_push_of_some _ q
  obtain ⟨its, r, ht, hz⟩ := I5.tuple hx
  match its, r with
  | z :: zs, .cons rz rzs =>
  have hlen := rzs.length
  show wpAny (model X.prog X.w) X.A (subscriptTail e (.Slice none (some (.Constant (.int 0) k0 p0)) (some (.UnaryOp .USub (.Constant (.int 1) k p1) p2)) p3) (.ref a) (.ref s4.heap.objs.size)) (EP X pins σ Q) X.xe { s4 with heap := s4.heap.push { cls := .type "slice", data := .fields #[.none, vu, vs] } }
  refine tail_any (ops := [.ref a, .ref s4.heap.objs.size]) ht.typeIs PyProof.Rows.slot_tuple_getitem.lookup ?_ (by with_unfolding_all rfl)
  have hz' : ys.length ≤ sizeLine := by
    have : ys.length + 1 ≤ sizeLine := hz
    omega
  refine item_rev ht (Heap.IsSliceOf.new _ .none vu vs) pu ps ?_ (by rw [← hlen]; exact hz')
  refine ⟨.ref _, _, I5.laid (t' := s4.toks) (o := .tup ys.reverse) (fun b ob q => Heap.get?_push_of_some _ q) (Nat.le_refl _) ?_, rfl, q _ (I5.hok.fresh (Nat.le_refl _))⟩
  exact ⟨by rw [List.length_reverse]; exact hz', _, L2.Vals.reverse rzs, IsTup.new _ _⟩
end J

/-! ### positions -/
namespace J
open PySem L2
mutual
def poss : Tm → List (List Int)
  | .var _ => [[]]
  | .app _ ts => [] :: posss 1 ts
def posss : Nat → List Tm → List (List Int)
  | _, [] => []
  | k, t :: ts => (poss t).map (fun q => (k : Int) :: q) ++ posss (k + 1) ts
end
/-- q is a position of t -/
def IsPos : List Int → Tm → Prop
  | [], _ => True
  | k :: q, .app _ ts => 1 ≤ k ∧ ∃ t, ts[(k - 1).toNat]? = some t ∧ IsPos q t
  | _ :: _, .var _ => False
def rep (u : Tm) : List Int → Tm → Tm
  | [], _ => u
  | k :: q, .app f ts => .app f (ts.set (k - 1).toNat (rep u q (ts.getD (k - 1).toNat u)))
  | _ :: _, .var n => .var n
/-- the subterm at q -/
def at? : List Int → Tm → Option Tm
  | [], t => some t
  | k :: q, .app _ ts => if 1 ≤ k then (ts[(k - 1).toNat]?).bind (at? q) else none
  | _ :: _, .var _ => none
mutual
theorem poss_is : ∀ (t : Tm) (q : List Int), q ∈ poss t → IsPos q t ∧ q.length < t.dep
  | .var n, q, h => by
    rw [List.mem_singleton.mp (show q ∈ [[]] from h)]
    exact ⟨trivial, Nat.one_pos⟩
  | .app f ts, q, h => by
    rcases List.mem_cons.mp (show q ∈ [] :: posss 1 ts from h) with e | h
    · rw [e]; exact ⟨trivial, Tm.dep_pos (.app f ts)⟩
    · obtain ⟨j, t, r, rfl, ht, h1, h2⟩ := posss_is 1 ts q h
      have hm := Tm.dep_of_mem (List.mem_of_getElem? ht)
      refine ⟨⟨by omega, t, ?_, h1⟩, ?_⟩
      · have : (((1 + j : Nat) : Int) - 1).toNat = j := by omega
        rw [this]; exact ht
      · show r.length + 1 < 1 + Tm.deps ts
        omega
theorem posss_is : ∀ (k : Nat) (ts : List Tm) (q : List Int), q ∈ posss k ts → ∃ (j : Nat) (t : Tm) (r : List Int), q = ((k + j : Nat) : Int) :: r ∧ ts[j]? = some t ∧ IsPos r t ∧ r.length < t.dep
  | _, [], _, h => nomatch h
  | k, t :: ts, q, h => by
    rcases List.mem_append.mp (show q ∈ (poss t).map (fun q => (k : Int) :: q) ++ posss (k + 1) ts from h) with h | h
    · obtain ⟨r, hr, rfl⟩ := List.mem_map.mp h
      have := poss_is t r hr
      exact ⟨0, t, r, rfl, rfl, this.1, this.2⟩
    · obtain ⟨j, u, r, rfl, hu, h1, h2⟩ := posss_is (k + 1) ts q h
      exact ⟨j + 1, u, r, by rw [show k + 1 + j = k + (j + 1) by omega], by rw [List.getElem?_cons_succ]; exact hu, h1, h2⟩
end
mutual
theorem poss_len : ∀ t : Tm, (poss t).length = t.sz
  | .var _ => rfl
  | .app f ts => by show (posss 1 ts).length + 1 = 1 + Tm.szs ts; rw [posss_len 1 ts]; omega
theorem posss_len : ∀ (k : Nat) (ts : List Tm), (posss k ts).length = Tm.szs ts
  | _, [] => rfl
  | k, t :: ts => by
    show ((poss t).map (fun q => (k : Int) :: q) ++ posss (k + 1) ts).length = t.sz + Tm.szs ts
    rw [List.length_append, List.length_map, poss_len t, posss_len (k + 1) ts]
end
theorem posss_app : ∀ (a b : List Tm) (k : Nat), posss k (a ++ b) = posss k a ++ posss (k + a.length) b
  | [], _, _ => rfl
  | t :: ts, b, k => by
    show (poss t).map (fun q => (k : Int) :: q) ++ posss (k + 1) (ts ++ b) = ((poss t).map (fun q => (k : Int) :: q) ++ posss (k + 1) ts) ++ posss (k + (ts.length + 1)) b
    rw [posss_app ts b, List.append_assoc, show k + 1 + ts.length = k + (ts.length + 1) by omega]
/-- a list of tuples of ints -/
def PosIn (H : Hp) (p : Addr) (ps : List (List Int)) : Prop := ∃ as : List Addr, H p = some (.lst (as.map V.ref)) ∧ as.length = ps.length ∧ ∀ (k : Nat) (a : Addr) (q : List Int), as[k]? = some a → ps[k]? = some q → H a = some (.tup (q.map V.int))
theorem PosIn.get {H : Hp} {p : Addr} {ps : List (List Int)} (h : PosIn H p ps) {k : Nat} (hk : k < ps.length) : ∃ (xs : List V) (a : Addr) (q : List Int), H p = some (.lst xs) ∧ xs.length = ps.length ∧ xs[k]? = some (.ref a) ∧ ps[k]? = some q ∧ H a = some (.tup (q.map V.int)) := by
  obtain ⟨as, h1, h2, h3⟩ := h
  have hk' : k < as.length := by omega
  exact ⟨_, as[k], ps[k], h1, by rw [List.length_map, h2], by rw [List.getElem?_map, List.getElem?_eq_getElem hk']; rfl, List.getElem?_eq_getElem hk, h3 k _ _ (List.getElem?_eq_getElem hk') (List.getElem?_eq_getElem hk)⟩
theorem PosIn.mono {H H' : Hp} {p : Addr} {ps : List (List Int)} (h : PosIn H p ps) (t : Tu H H') (e : ∀ xs, H p = some (.lst xs) → H' p = some (.lst xs)) : PosIn H' p ps := by
  obtain ⟨as, h1, h2, h3⟩ := h
  exact ⟨as, e _ h1, h2, fun k a q ea eq => t _ _ (h3 k a q ea eq)⟩
theorem PosIn.same {H H' : Hp} {p : Addr} {ps : List (List Int)} (h : PosIn H p ps) (s : Same H H') : PosIn H' p ps := h.mono (tu_same s) fun _ e => s _ _ e
theorem PosIn.push {H H' : Hp} {p a : Addr} {ps : List (List Int)} {q : List Int} {as : List Addr} (h1 : H p = some (.lst (as.map V.ref))) (h2 : as.length = ps.length) (h3 : ∀ (k : Nat) (a : Addr) (q : List Int), as[k]? = some a → ps[k]? = some q → H a = some (.tup (q.map V.int)))
    (t : Tu H H') (e : H' p = some (.lst (as.map V.ref ++ [.ref a]))) (ha : H' a = some (.tup (q.map V.int))) : PosIn H' p (ps ++ [q]) := by
  refine ⟨as ++ [a], by rw [e, List.map_append]; rfl, by rw [List.length_append, List.length_append, h2]; rfl, fun k b r eb er => ?_⟩
  by_cases hk : k < as.length
  · rw [List.getElem?_append_left hk] at eb
    rw [List.getElem?_append_left (by omega)] at er
    exact t _ _ (h3 k b r eb er)
  · have h4 := (List.getElem?_eq_some_iff.mp eb).1
    rw [List.length_append, List.length_singleton] at h4
    have ek : k = as.length := by omega
    subst ek
    rw [List.getElem?_append_right (Nat.le_refl _), Nat.sub_self] at eb
    rw [List.getElem?_append_right (by omega), h2, Nat.sub_self] at er
    cases eb; cases er
    exact ha
theorem cutLo (vs : List V) (k : Nat) : cutV vs none (some (k : Int)) = vs.take k := by
  unfold cutV
  have e1 : HT.sIx vs.length 0 none = 0 := rfl
  rw [e1, HT.sIx_nat, List.drop_zero, Nat.sub_zero]
  by_cases h : k ≤ vs.length
  · rw [Nat.min_eq_left h]
  · rw [Nat.min_eq_right (by omega), List.take_of_length_le (Nat.le_refl _), List.take_of_length_le (by omega)]
theorem cutHi (vs : List V) (k : Nat) : cutV vs (some (k : Int)) none = vs.drop k := by
  unfold cutV
  have e1 : HT.sIx vs.length vs.length none = vs.length := rfl
  rw [e1, HT.sIx_nat]
  by_cases h : k ≤ vs.length
  · rw [Nat.min_eq_left h, List.take_of_length_le (by rw [List.length_drop]; exact Nat.le_refl _)]
  · rw [Nat.min_eq_right (by omega), List.drop_of_length_le (Nat.le_refl _), List.drop_of_length_le (by omega), List.take_nil]
theorem notLo {vs : List V} {k : Nat} (h : k < vs.length) : ¬ (HT.sIx vs.length 0 none = 0 ∧ HT.sIx vs.length vs.length (some (k : Int)) = vs.length) := fun z => by
  rw [HT.sIx_nat] at z
  have := z.2
  omega
theorem notHi {vs : List V} {k : Nat} (h : 1 ≤ k) (hv : 1 ≤ vs.length) : ¬ (HT.sIx vs.length 0 (some (k : Int)) = 0 ∧ HT.sIx vs.length vs.length none = vs.length) := fun z => by
  rw [HT.sIx_nat] at z
  have := z.1
  omega
theorem TmsIn.take {H : Hp} : ∀ {ts : List Tm} {vs : List V} (k : Nat), TmsIn H ts vs → TmsIn H (ts.take k) (vs.take k)
  | [], _, k, h => by cases (show _ = [] from h); cases k <;> rfl
  | _ :: _, _, 0, _ => rfl
  | t :: ts, _, k + 1, ⟨v, r, rfl, h, q⟩ => ⟨v, r.take k, rfl, h, TmsIn.take k q⟩
theorem TmsIn.drop {H : Hp} : ∀ {ts : List Tm} {vs : List V} (k : Nat), TmsIn H ts vs → TmsIn H (ts.drop k) (vs.drop k)
  | [], _, k, h => by cases (show _ = [] from h); cases k <;> rfl
  | _ :: _, _, 0, h => h
  | t :: ts, _, k + 1, ⟨v, r, rfl, h, q⟩ => TmsIn.drop k q
theorem set_cut {α : Type} {l : List α} {k : Nat} {x : α} (h : k < l.length) : l.set k x = l.take k ++ [x] ++ l.drop (k + 1) := by
  rw [List.set_eq_take_append_cons_drop, if_pos h, List.append_assoc]; rfl
/-- sizes and depths behind a replacement -/
theorem rep_dep (u : Tm) : ∀ (q : List Int) (t : Tm), IsPos q t → (rep u q t).dep ≤ max t.dep (q.length + u.dep) ∧ (rep u q t).sz ≤ t.sz + u.sz
  | [], t, _ => ⟨by show u.dep ≤ _; have := t.dep_pos; simp; omega, by show u.sz ≤ _; omega⟩
  | k :: q, .var n, h => h.elim
  | k :: q, .app f ts, ⟨h1, t, ht, hp⟩ => by
    have ih := rep_dep u q t hp
    have e : ts.getD (k - 1).toNat u = t := by rw [List.getD_eq_getElem?_getD, ht]; rfl
    have hk : (k - 1).toNat < ts.length := (List.getElem?_eq_some_iff.mp ht).1
    have hd : ∀ (l : List Tm) (j : Nat) (x : Tm) (M : Nat), Tm.deps l ≤ M → x.dep ≤ M → Tm.deps (l.set j x) ≤ M := by
      intro l
      induction l with
      | nil => intro j x M h _; exact h
      | cons a r ih =>
        intro j x M h hx
        have h : max a.dep (Tm.deps r) ≤ M := h
        cases j with
        | zero => show max x.dep (Tm.deps r) ≤ M; omega
        | succ j => show max a.dep (Tm.deps (r.set j x)) ≤ M; have := ih j x M (by omega) hx; omega
    have hs : ∀ (l : List Tm) (j : Nat) (x y : Tm), l[j]? = some y → Tm.szs (l.set j x) + y.sz = Tm.szs l + x.sz := by
      intro l
      induction l with
      | nil => intro j x y h; simp at h
      | cons a r ih =>
        intro j x y h
        cases j with
        | zero =>
          have h : a = y := by simpa using h
          subst h
          show x.sz + Tm.szs r + a.sz = a.sz + Tm.szs r + x.sz
          omega
        | succ j =>
          have := ih j x y (by simpa using h)
          show a.sz + Tm.szs (r.set j x) + y.sz = a.sz + Tm.szs r + x.sz
          omega
    have hm := Tm.dep_of_mem (List.mem_of_getElem? ht)
    refine ⟨?_, ?_⟩
    · show 1 + Tm.deps (ts.set (k - 1).toNat (rep u q (ts.getD (k - 1).toNat u))) ≤ max (1 + Tm.deps ts) (q.length + 1 + u.dep)
      rw [e]
      have := hd ts (k - 1).toNat (rep u q t) (max (Tm.deps ts) (q.length + u.dep)) (by omega) (by omega)
      omega
    · show 1 + Tm.szs (ts.set (k - 1).toNat (rep u q (ts.getD (k - 1).toNat u))) ≤ 1 + Tm.szs ts + u.sz
      rw [e]
      have := hs ts (k - 1).toNat (rep u q t) t ht
      omega
theorem at_cons_app {k : Int} {q : List Int} {f : Str} {ts : List Tm} : at? (k :: q) (.app f ts) = if 1 ≤ k then (ts[(k - 1).toNat]?).bind (at? q) else none := rfl
theorem at_app : ∀ (a b : List Int) (t : Tm), at? (a ++ b) t = (at? a t).bind (at? b)
  | [], _, _ => rfl
  | k :: a, b, .var _ => rfl
  | k :: a, b, .app f ts => by
    show at? (k :: (a ++ b)) (.app f ts) = _
    rw [at_cons_app, at_cons_app]
    by_cases h : 1 ≤ k
    · rw [if_pos h, if_pos h]
      cases ts[(k - 1).toNat]? with
      | none => rfl
      | some t => exact at_app a b t
    · rw [if_neg h, if_neg h]; rfl
theorem isPos_at : ∀ (q : List Int) (t : Tm), IsPos q t ↔ ∃ u, at? q t = some u
  | [], t => ⟨fun _ => ⟨t, rfl⟩, fun _ => trivial⟩
  | k :: q, .var _ => ⟨fun h => h.elim, fun ⟨_, h⟩ => nomatch h⟩
  | k :: q, .app f ts => by
    rw [at_cons_app]
    constructor
    · rintro ⟨h1, t, ht, hp⟩
      obtain ⟨u, hu⟩ := (isPos_at q t).mp hp
      exact ⟨u, by rw [if_pos h1, ht]; exact hu⟩
    · rintro ⟨u, hu⟩
      by_cases h : 1 ≤ k
      · rw [if_pos h] at hu
        cases e : ts[(k - 1).toNat]? with
        | none => rw [e] at hu; cases hu
        | some t => rw [e] at hu; exact ⟨h, t, e, (isPos_at q t).mpr ⟨u, hu⟩⟩
      · rw [if_neg h] at hu; cases hu
theorem isPos_app (a b : List Int) (t : Tm) : IsPos (a ++ b) t ↔ ∃ u, at? a t = some u ∧ IsPos b u := by
  rw [isPos_at, at_app]
  constructor
  · rintro ⟨w, hw⟩
    cases e : at? a t with
    | none => rw [e] at hw; cases hw
    | some u => rw [e] at hw; exact ⟨u, rfl, (isPos_at b u).mpr ⟨w, hw⟩⟩
  · rintro ⟨u, hu, hb⟩
    rw [hu]
    exact (isPos_at b u).mp hb
theorem isPos_take {q : List Int} {t : Tm} (h : IsPos q t) (i : Nat) : ∃ u, at? (q.take i) t = some u := by
  have := (isPos_app (q.take i) (q.drop i) t).mp (by rw [List.take_append_drop]; exact h)
  obtain ⟨u, hu, _⟩ := this
  exact ⟨u, hu⟩
/-- a child -/
theorem isPos_one {k : Int} {t : Tm} : IsPos [k] t ↔ ∃ f ts u, t = .app f ts ∧ 1 ≤ k ∧ ts[(k - 1).toNat]? = some u := by
  cases t with
  | var n => exact ⟨fun h => h.elim, fun ⟨_, _, _, h, _⟩ => nomatch h⟩
  | app f ts => exact ⟨fun ⟨h1, u, hu, _⟩ => ⟨f, ts, u, rfl, h1, hu⟩, fun ⟨_, _, u, e, h1, hu⟩ => by cases e; exact ⟨h1, u, hu, trivial⟩⟩
theorem at_step {q : List Int} {t w : Tm} {i : Nat} {k : Int} (hk : q[i]? = some k) (hw : at? (q.take i) t = some w) : at? (q.take (i + 1)) t = at? [k] w := by
  rw [list_take_succ hk, at_app, hw]; rfl
/-- put in, and take out -/
theorem at_rep (u : Tm) : ∀ (q : List Int) (t : Tm), IsPos q t → at? q (rep u q t) = some u
  | [], _, _ => rfl
  | k :: q, .var _, h => h.elim
  | k :: q, .app f ts, ⟨h1, t, ht, hp⟩ => by
    have hk := (List.getElem?_eq_some_iff.mp ht).1
    have e : ts.getD (k - 1).toNat u = t := by rw [List.getD_eq_getElem?_getD, ht]; rfl
    show at? (k :: q) (.app f (ts.set (k - 1).toNat (rep u q (ts.getD (k - 1).toNat u)))) = _
    rw [at_cons_app, if_pos h1, List.getElem?_set_self hk, e]
    exact at_rep u q t hp
theorem isPos_rep {u : Tm} {q : List Int} {t : Tm} (h : IsPos q t) : IsPos q (rep u q t) := (isPos_at q _).mpr ⟨u, at_rep u q t h⟩
theorem rep_back (u s : Tm) : ∀ (q : List Int) (t : Tm), at? q t = some s → rep s q (rep u q t) = t
  | [], t, h => (Option.some.inj h).symm
  | k :: q, .var _, h => nomatch h
  | k :: q, .app f ts, h => by
    rw [at_cons_app] at h
    by_cases h1 : 1 ≤ k
    · rw [if_pos h1] at h
      cases ht : ts[(k - 1).toNat]? with
      | none => rw [ht] at h; cases h
      | some t =>
        rw [ht] at h
        have hk := (List.getElem?_eq_some_iff.mp ht).1
        have e : ts.getD (k - 1).toNat u = t := by rw [List.getD_eq_getElem?_getD, ht]; rfl
        have ih := rep_back u s q t h
        show Tm.app f ((ts.set (k - 1).toNat (rep u q (ts.getD (k - 1).toNat u))).set (k - 1).toNat (rep s q ((ts.set (k - 1).toNat (rep u q (ts.getD (k - 1).toNat u))).getD (k - 1).toNat s))) = _
        have e2 : (ts.set (k - 1).toNat (rep u q (ts.getD (k - 1).toNat u))).getD (k - 1).toNat s = rep u q t := by
          rw [List.getD_eq_getElem?_getD, List.getElem?_set_self hk, e]; rfl
        rw [e2, ih, List.set_set, ← (List.getElem?_eq_some_iff.mp ht).2, List.set_getElem_self]
    · rw [if_neg h1] at h; cases h
theorem rep_step {u w c : Tm} {q : List Int} {k : Int} {i : Nat} {t : Tm} (hk : q[i]? = some k) (hw : at? (q.take i) t = some w) (hc : at? (q.take (i + 1)) t = some c) :
    ∃ f ts, w = .app f ts ∧ 1 ≤ k ∧ ts[(k - 1).toNat]? = some c ∧ rep u (q.drop i) w = .app f (ts.set (k - 1).toNat (rep u (q.drop (i + 1)) c)) := by
  rw [at_step hk hw] at hc
  obtain ⟨f, ts, c', rfl, h1, h2⟩ := isPos_one.mp ((isPos_at [k] w).mpr ⟨c, hc⟩)
  have hi := (List.getElem?_eq_some_iff.mp hk)
  rw [at_cons_app, if_pos h1, h2] at hc
  have hc : some c' = some c := hc
  cases hc
  refine ⟨f, ts, rfl, h1, h2, ?_⟩
  have e : q.drop i = k :: q.drop (i + 1) := by
    obtain ⟨hi, rfl⟩ := hi
    exact (List.drop_eq_getElem_cons hi)
  rw [e]
  show Tm.app f (ts.set (k - 1).toNat (rep u (q.drop (i + 1)) (ts.getD (k - 1).toNat u))) = _
  rw [List.getD_eq_getElem?_getD, h2]; rfl
theorem at_sz : ∀ (q : List Int) (t u : Tm), at? q t = some u → u.sz ≤ t.sz ∧ u.dep ≤ t.dep
  | [], t, u, h => by cases (show some t = some u from h); exact ⟨Nat.le_refl _, Nat.le_refl _⟩
  | k :: q, .var _, _, h => nomatch h
  | k :: q, .app f ts, u, h => by
    rw [at_cons_app] at h
    by_cases h1 : 1 ≤ k
    · rw [if_pos h1] at h
      cases ht : ts[(k - 1).toNat]? with
      | none => rw [ht] at h; cases h
      | some t =>
        rw [ht] at h
        have ih := at_sz q t u h
        have hm := List.mem_of_getElem? ht
        have h2 := Tm.dep_of_mem hm
        have h3 := Tm.sz_arg hm
        exact ⟨by show u.sz ≤ 1 + Tm.szs ts; omega, by show u.dep ≤ 1 + Tm.deps ts; omega⟩
    · rw [if_neg h1] at h; cases h
/-- pairs of a position and a term, on a stack -/
def PairIn (H : Hp) (v : V) (x : List Int × Tm) : Prop := ∃ (b c : Addr) (u : V), v = .ref b ∧ H b = some (.tup [.ref c, u]) ∧ H c = some (.tup (x.1.map V.int)) ∧ TmIn H x.2 u
def StkIn (H : Hp) (ws : List V) (S : List (List Int × Tm)) : Prop := ws.length = S.length ∧ ∀ (k : Nat) (v : V) (x : List Int × Tm), ws[k]? = some v → S[k]? = some x → PairIn H v x
theorem PairIn.tu {H H' : Hp} {v : V} {x : List Int × Tm} (h : PairIn H v x) (t : Tu H H') : PairIn H' v x := by
  obtain ⟨b, c, u, rfl, h1, h2, h3⟩ := h
  exact ⟨b, c, u, rfl, t _ _ h1, t _ _ h2, h3.tu t⟩
theorem StkIn.tu {H H' : Hp} {ws : List V} {S : List (List Int × Tm)} (h : StkIn H ws S) (t : Tu H H') : StkIn H' ws S := ⟨h.1, fun k v x e1 e2 => (h.2 k v x e1 e2).tu t⟩
theorem StkIn.snoc {H : Hp} {ws : List V} {S : List (List Int × Tm)} (h : StkIn H ws S) {v : V} {x : List Int × Tm} (hv : PairIn H v x) : StkIn H (ws ++ [v]) (S ++ [x]) := by
  refine ⟨by rw [List.length_append, List.length_append, h.1]; rfl, fun k u y e1 e2 => ?_⟩
  by_cases hk : k < ws.length
  · rw [List.getElem?_append_left hk] at e1
    rw [List.getElem?_append_left (by have := h.1; omega)] at e2
    exact h.2 k u y e1 e2
  · have h4 := (List.getElem?_eq_some_iff.mp e1).1
    rw [List.length_append, List.length_singleton] at h4
    have ek : k = ws.length := by omega
    subst ek
    rw [List.getElem?_append_right (Nat.le_refl _), Nat.sub_self] at e1
    rw [List.getElem?_append_right (by have := h.1; omega), h.1, Nat.sub_self] at e2
    cases e1; cases e2
    exact hv
theorem StkIn.pop {H : Hp} {ws : List V} {S : List (List Int × Tm)} (h : StkIn H ws S) (n : ws ≠ []) : ∃ v S' x, ws[ws.length - 1]? = some v ∧ S = S' ++ [x] ∧ PairIn H v x ∧ StkIn H ws.dropLast S' := by
  have l := h.1
  have hw : 0 < ws.length := List.length_pos_iff.mpr n
  have hS : S ≠ [] := fun z => by rw [z] at l; simp at l; exact n l
  obtain ⟨S', x, rfl⟩ : ∃ S' x, S = S' ++ [x] := ⟨S.dropLast, S.getLast hS, (List.dropLast_concat_getLast hS).symm⟩
  rw [List.length_append, List.length_singleton] at l
  have hl : ws.length - 1 < ws.length := by omega
  have e1 := List.getElem?_eq_getElem hl
  refine ⟨_, S', x, e1, rfl, h.2 _ _ x e1 (by rw [List.getElem?_append_right (by omega), show ws.length - 1 - S'.length = 0 by omega]; rfl), by rw [List.length_dropLast]; omega, fun k v y g1 g2 => ?_⟩
  rw [List.getElem?_dropLast] at g1
  by_cases hk : k < ws.length - 1
  · rw [if_pos hk] at g1
    exact h.2 k v y g1 (by rw [List.getElem?_append_left (by omega)]; exact g2)
  · rw [if_neg hk] at g1; cases g1
def posOf : List (List Int × Tm) → List (List Int)
  | [] => []
  | x :: r => (poss x.2).map (fun z => x.1 ++ z) ++ posOf r
def kids (q : List Int) : Nat → List Tm → List (List Int × Tm)
  | _, [] => []
  | k, t :: ts => (q ++ [(k : Int)], t) :: kids q (k + 1) ts
def szOf (S : List (List Int × Tm)) : Nat := (S.map fun x => x.2.sz).sum
theorem posOf_app (a b : List (List Int × Tm)) : posOf (a ++ b) = posOf a ++ posOf b := by
  induction a with
  | nil => rfl
  | cons x a ih => show (poss x.2).map (fun z => x.1 ++ z) ++ posOf (a ++ b) = _; rw [ih, ← List.append_assoc]; rfl
theorem posOf_len (a : List (List Int × Tm)) : (posOf a).length = szOf a := by
  induction a with
  | nil => rfl
  | cons x a ih => show ((poss x.2).map (fun z => x.1 ++ z) ++ posOf a).length = x.2.sz + szOf a; rw [List.length_append, List.length_map, poss_len, ih]
theorem szOf_app (a b : List (List Int × Tm)) : szOf (a ++ b) = szOf a + szOf b := by unfold szOf; rw [List.map_append, List.sum_append]
theorem szOf_rev (a : List (List Int × Tm)) : szOf a.reverse = szOf a := by
  induction a with
  | nil => rfl
  | cons x a ih =>
    rw [List.reverse_cons, szOf_app, ih]
    show szOf a + (x.2.sz + 0) = x.2.sz + szOf a
    omega
theorem len_szOf (a : List (List Int × Tm)) : a.length ≤ szOf a := by
  induction a with
  | nil => exact Nat.le_refl _
  | cons x a ih => have := x.2.sz_pos; show a.length + 1 ≤ x.2.sz + szOf a; omega
theorem posOf_kids (q : List Int) : ∀ (ts : List Tm) (k : Nat), posOf (kids q k ts) = (posss k ts).map (fun z => q ++ z)
  | [], _ => rfl
  | t :: ts, k => by
    show (poss t).map (fun z => (q ++ [(k : Int)]) ++ z) ++ posOf (kids q (k + 1) ts) = ((poss t).map (fun z => (k : Int) :: z) ++ posss (k + 1) ts).map (fun z => q ++ z)
    rw [posOf_kids q ts, List.map_append, List.map_map]
    congr 1
    refine List.map_congr_left fun z _ => ?_
    show (q ++ [(k : Int)]) ++ z = q ++ ((k : Int) :: z)
    rw [List.append_assoc]; rfl
theorem kids_len (q : List Int) : ∀ (ts : List Tm) (k : Nat), (kids q k ts).length = ts.length
  | [], _ => rfl
  | _ :: ts, k => congrArg (· + 1) (kids_len q ts (k + 1))
theorem kids_get (q : List Int) : ∀ (ts : List Tm) (k i : Nat) (t : Tm), ts[i]? = some t → (kids q k ts)[i]? = some (q ++ [((k + i : Nat) : Int)], t)
  | [], _, _, _, h => by simp at h
  | _ :: _, k, 0, _, h => by cases h; rfl
  | _ :: ts, k, i + 1, t, h => by
    have := kids_get q ts (k + 1) i t h
    rw [show k + 1 + i = k + (i + 1) by omega] at this
    exact this
theorem kids_sz (q : List Int) : ∀ (ts : List Tm) (k : Nat), szOf (kids q k ts) = Tm.szs ts
  | [], _ => rfl
  | t :: ts, k => by show t.sz + szOf (kids q (k + 1) ts) = t.sz + Tm.szs ts; rw [kids_sz q ts]
theorem rep_wf {fs : List Str} {B : Int} {u : Tm} (wu : u.wf fs B) : ∀ (q : List Int) (t : Tm), t.wf fs B → IsPos q t → (rep u q t).wf fs B
  | [], _, _, _ => wu
  | _ :: _, .var _, _, h => h.elim
  | k :: q, .app f ts, w, ⟨h1, t, ht, hp⟩ => by
    obtain ⟨⟨i, i1, i2⟩, w⟩ := (show (∃ k, fs[k]? = some f ∧ ts.length = ar k) ∧ Tm.wfs fs B ts from w)
    have e : ts.getD (k - 1).toNat u = t := by rw [List.getD_eq_getElem?_getD, ht]; rfl
    have ih := rep_wf wu q t (Tm.wf_of_mem w (List.mem_of_getElem? ht)) hp
    show (∃ k', fs[k']? = some f ∧ (ts.set (k - 1).toNat (rep u q (ts.getD (k - 1).toNat u))).length = ar k') ∧ Tm.wfs fs B (ts.set (k - 1).toNat (rep u q (ts.getD (k - 1).toNat u)))
    rw [e]
    refine ⟨⟨i, i1, by rw [List.length_set]; exact i2⟩, Tm.wfs_of fun x hx => ?_⟩
    rcases List.mem_or_eq_of_mem_set hx with h | h
    · exact Tm.wf_of_mem w h
    · rw [h]; exact ih
end J

/-! ### canonical forms -/
namespace J
open PySem L2
/-- the place of n in u, counted from k -/
def ix : Nat → List Int → Int → Option Nat
  | _, [], _ => none
  | k, a :: r, n => if a = n then some k else ix (k + 1) r n
/-- the dict that numbers u from k on -/
def knf : Nat → List Int → List (Key × V)
  | _, [] => []
  | k, a :: r => (.inl a, .int (k : Int)) :: knf (k + 1) r
def rnm (u : List Int) : Int → Option Tm := fun n => (ix 0 u n).map fun (k : Nat) => Tm.var (k : Int)
theorem knf_val : ∀ (u : List Int) (k : Nat) (n : Int), valV (knf k u) (.inl n) = (ix k u n).map fun (j : Nat) => V.int (j : Int)
  | [], _, _ => rfl
  | a :: r, k, n => by
    by_cases h : a = n
    · subst h
      show valV (((.inl a : Key), V.int (k : Int)) :: knf (k + 1) r) (.inl a) = (if a = a then some k else _).map _
      rw [if_pos rfl]
      exact valV_pos (p := ((.inl a : Key), V.int (k : Int))) rfl
    · have e : ¬ ((Sum.inl a : Key) = .inl n) := fun z => h (Sum.inl.inj z)
      show valV (((.inl a : Key), V.int (k : Int)) :: knf (k + 1) r) (.inl n) = (if a = n then some k else ix (k + 1) r n).map _
      rw [if_neg h, valV_neg e, knf_val r]
theorem knf_len : ∀ (u : List Int) (k : Nat), (knf k u).length = u.length
  | [], _ => rfl
  | _ :: r, k => by show (knf (k + 1) r).length + 1 = r.length + 1; rw [knf_len r]
theorem ix_none : ∀ (u : List Int) (k : Nat) (n : Int), ix k u n = none ↔ n ∉ u
  | [], _, n => by show none = none ↔ _; simp
  | a :: r, k, n => by
    show (if a = n then some k else ix (k + 1) r n) = none ↔ _
    by_cases h : a = n
    · rw [if_pos h]; subst h; simp
    · rw [if_neg h, ix_none r, List.mem_cons, not_or]
      exact ⟨fun z => ⟨fun w => h w.symm, z⟩, fun z => z.2⟩
theorem knf_snoc : ∀ (u : List Int) (k : Nat) (n : Int), knf k (u ++ [n]) = knf k u ++ [(.inl n, .int ((k + u.length : Nat) : Int))]
  | [], _, _ => rfl
  | a :: r, k, n => by
    show ((.inl a : Key), V.int (k : Int)) :: knf (k + 1) (r ++ [n]) = ((.inl a : Key), V.int (k : Int)) :: (knf (k + 1) r ++ _)
    rw [knf_snoc r, show k + 1 + r.length = k + (a :: r).length by rw [List.length_cons]; omega]
theorem knf_put {u : List Int} {n : Int} (h : n ∉ u) : putK (knf 0 u) (.inl n) (.int (u.length : Int)) = knf 0 (u ++ [n]) := by
  rw [putK_new _ (by rw [knf_val, (ix_none u 0 n).mpr h]; rfl), knf_snoc, Nat.zero_add]
theorem rnm_in {H : Hp} {d : Addr} {u : List Int} (h : H d = some (.dK (knf 0 u))) : SbIn H d (rnm u) := by
  refine ⟨_, h, fun n => ?_⟩
  unfold rnm
  rw [knf_val]
  cases ix 0 u n with
  | none => rfl
  | some k => exact ⟨_, rfl, rfl⟩
def both (l r : Tm) : List Int := adds [] (vars l ++ vars r)
def canon (l r : Tm) : Tm × Tm := (sub (rnm (both l r)) l, sub (rnm (both l r)) r)
/-- variables renamed by g -/
def ren (g : Int → Int) (t : Tm) : Tm := sub (fun n => some (.var (g n))) t
theorem vars_mem (t : Tm) (n : Int) : n ∈ vars t ↔ n ∈ occ t := by
  unfold vars
  rw [adds_mem]
  simp
theorem both_mem (l r : Tm) (n : Int) : n ∈ both l r ↔ n ∈ occ l ∨ n ∈ occ r := by
  unfold both
  rw [adds_mem, List.mem_append, vars_mem, vars_mem]
  simp
theorem both_occ (l r : Tm) : both l r = adds [] (occ l ++ occ r) := by
  unfold both vars
  rw [adds_app, adds_app, adds_two, adds_two]
  rfl
mutual
theorem occ_sub (m : Int → Option Tm) (g : Int → Int) : ∀ t : Tm, (∀ n ∈ occ t, m n = some (.var (g n))) → occ (sub m t) = (occ t).map g
  | .var n, h => by
    show occ ((m n).getD (.var n)) = _
    rw [h n (List.mem_singleton.mpr rfl)]; rfl
  | .app f ts, h => by show occs (subs m ts) = (occs ts).map g; exact occs_sub m g ts h
theorem occs_sub (m : Int → Option Tm) (g : Int → Int) : ∀ ts : List Tm, (∀ n ∈ occs ts, m n = some (.var (g n))) → occs (subs m ts) = (occs ts).map g
  | [], _ => rfl
  | t :: ts, h => by
    show occ (sub m t) ++ occs (subs m ts) = (occ t ++ occs ts).map g
    rw [occ_sub m g t fun n hn => h n (List.mem_append.mpr (.inl hn)), occs_sub m g ts fun n hn => h n (List.mem_append.mpr (.inr hn)), List.map_append]
end
theorem adds_map (g : Int → Int) : ∀ (l acc : List Int), (∀ a ∈ acc ++ l, ∀ b ∈ acc ++ l, g a = g b → a = b) → adds (acc.map g) (l.map g) = (adds acc l).map g
  | [], _, _ => rfl
  | n :: r, acc, inj => by
    show adds (if g n ∈ acc.map g then acc.map g else acc.map g ++ [g n]) (r.map g) = (adds (if n ∈ acc then acc else acc ++ [n]) r).map g
    by_cases h : n ∈ acc
    · rw [if_pos h, if_pos (List.mem_map.mpr ⟨n, h, rfl⟩)]
      exact adds_map g r acc fun a ha b hb => inj a (by simp at ha ⊢; rcases ha with z | z <;> simp [z]) b (by simp at hb ⊢; rcases hb with z | z <;> simp [z])
    · have h2 : g n ∉ acc.map g := fun z => by
        obtain ⟨a, ha, e⟩ := List.mem_map.mp z
        have := inj a (List.mem_append.mpr (.inl ha)) n (by simp) e
        exact h (this ▸ ha)
      rw [if_neg h, if_neg h2]
      have e : acc.map g ++ [g n] = (acc ++ [n]).map g := by rw [List.map_append]; rfl
      rw [e]
      exact adds_map g r (acc ++ [n]) fun a ha b hb => inj a (by rw [List.append_assoc] at ha; exact ha) b (by rw [List.append_assoc] at hb; exact hb)
theorem ix_map (g : Int → Int) : ∀ (u : List Int) (k : Nat) (n : Int), (∀ a ∈ u, g a = g n → a = n) → ix k (u.map g) (g n) = ix k u n
  | [], _, _, _ => rfl
  | a :: r, k, n, inj => by
    show (if g a = g n then some k else ix (k + 1) (r.map g) (g n)) = (if a = n then some k else ix (k + 1) r n)
    by_cases h : a = n
    · rw [if_pos h, if_pos (by rw [h])]
    · rw [if_neg h, if_neg fun z => h (inj a (List.mem_cons_self ..) z)]
      exact ix_map g r (k + 1) n fun b hb => inj b (List.mem_cons_of_mem _ hb)
mutual
theorem sub_ren (m m' : Int → Option Tm) (g : Int → Int) (v : Int → Option Tm) : ∀ t : Tm, (∀ n ∈ occ t, v n = some (.var (g n)) ∧ ((m' (g n)).getD (.var (g n))) = ((m n).getD (.var n))) → sub m' (sub v t) = sub m t
  | .var n, h => by
    obtain ⟨h1, h2⟩ := h n (List.mem_singleton.mpr rfl)
    show sub m' ((v n).getD (.var n)) = (m n).getD (.var n)
    rw [h1, ← h2]; rfl
  | .app f ts, h => by show Tm.app f (subs m' (subs v ts)) = .app f (subs m ts); rw [subs_ren m m' g v ts h]
theorem subs_ren (m m' : Int → Option Tm) (g : Int → Int) (v : Int → Option Tm) : ∀ ts : List Tm, (∀ n ∈ occs ts, v n = some (.var (g n)) ∧ ((m' (g n)).getD (.var (g n))) = ((m n).getD (.var n))) → subs m' (subs v ts) = subs m ts
  | [], _ => rfl
  | t :: ts, h => by
    show sub m' (sub v t) :: subs m' (subs v ts) = sub m t :: subs m ts
    rw [sub_ren m m' g v t fun n hn => h n (List.mem_append.mpr (.inl hn)), subs_ren m m' g v ts fun n hn => h n (List.mem_append.mpr (.inr hn))]
end
/-- renaming does not change the canonical form -/
theorem canon_ren {l r : Tm} (v : Int → Option Tm) (g : Int → Int) (hv : ∀ n, n ∈ occ l ∨ n ∈ occ r → v n = some (.var (g n)))
    (inj : ∀ a b, (a ∈ occ l ∨ a ∈ occ r) → (b ∈ occ l ∨ b ∈ occ r) → g a = g b → a = b) : canon (sub v l) (sub v r) = canon l r := by
  have e : both (sub v l) (sub v r) = (both l r).map g := by
    rw [both_occ, both_occ, occ_sub v g l fun n hn => hv n (.inl hn), occ_sub v g r fun n hn => hv n (.inr hn), ← List.map_append]
    exact adds_map g _ [] fun a ha b hb => inj a b (List.mem_append.mp ha) (List.mem_append.mp hb)
  unfold canon
  rw [e]
  have key : ∀ n, n ∈ occ l ∨ n ∈ occ r → ((rnm ((both l r).map g) (g n)).getD (.var (g n))) = ((rnm (both l r) n).getD (.var n)) := by
    intro n hn
    unfold rnm
    rw [ix_map g _ 0 n fun a ha => inj a n ((both_mem l r a).mp ha) hn]
    cases h : ix 0 (both l r) n with
    | none => exact absurd ((both_mem l r n).mpr hn) ((ix_none _ _ _).mp h)
    | some k => rfl
  rw [sub_ren (rnm (both l r)) _ g v l fun n hn => ⟨hv n (.inl hn), key n (.inl hn)⟩, sub_ren (rnm (both l r)) _ g v r fun n hn => ⟨hv n (.inr hn), key n (.inr hn)⟩]
theorem ix_lt : ∀ (u : List Int) (k : Nat) (n : Int) (j : Nat), ix k u n = some j → k ≤ j ∧ u[j - k]? = some n
  | [], _, _, _, h => nomatch h
  | a :: r, k, n, j, h => by
    have h : (if a = n then some k else ix (k + 1) r n) = some j := h
    by_cases e : a = n
    · rw [if_pos e] at h; cases h
      exact ⟨Nat.le_refl _, by rw [Nat.sub_self, e]; rfl⟩
    · rw [if_neg e] at h
      have := ix_lt r (k + 1) n j h
      refine ⟨by omega, ?_⟩
      rw [show j - k = (j - (k + 1)) + 1 by omega, List.getElem?_cons_succ]
      exact this.2
theorem canon_twice (l r : Tm) : canon (canon l r).1 (canon l r).2 = canon l r := by
  let g : Int → Int := fun n => match ix 0 (both l r) n with | some k => (k : Int) | none => n
  have some_of : ∀ n, n ∈ occ l ∨ n ∈ occ r → ∃ k, ix 0 (both l r) n = some k := fun n hn => by
    cases h : ix 0 (both l r) n with
    | none => exact absurd ((both_mem l r n).mpr hn) ((ix_none _ _ _).mp h)
    | some k => exact ⟨k, rfl⟩
  refine canon_ren (rnm (both l r)) g (fun n hn => ?_) fun a b ha hb e => ?_
  · obtain ⟨k, hk⟩ := some_of n hn
    show (ix 0 (both l r) n).map (fun (k : Nat) => Tm.var (k : Int)) = some (Tm.var (match ix 0 (both l r) n with | some k => (k : Int) | none => n))
    rw [hk]; rfl
  · obtain ⟨k, hk⟩ := some_of a ha
    obtain ⟨j, hj⟩ := some_of b hb
    have e : (match ix 0 (both l r) a with | some k => (k : Int) | none => a) = (match ix 0 (both l r) b with | some k => (k : Int) | none => b) := e
    rw [hk, hj] at e
    have e : (k : Int) = (j : Int) := e
    have h1 := (ix_lt _ _ _ _ hk).2
    have h2 := (ix_lt _ _ _ _ hj).2
    have : k = j := by omega
    rw [this] at h1
    rw [h1] at h2
    exact Option.some.inj h2
mutual
theorem sz_sub_var (m : Int → Option Tm) (hm : ∀ n t, m n = some t → t.sz = 1 ∧ t.dep = 1) : ∀ t : Tm, (sub m t).sz = t.sz ∧ (sub m t).dep = t.dep
  | .var n => by
    show ((m n).getD (.var n)).sz = 1 ∧ ((m n).getD (.var n)).dep = 1
    cases h : m n with
    | none => exact ⟨rfl, rfl⟩
    | some t => exact hm n t h
  | .app f ts => by
    have := szs_sub_var m hm ts
    exact ⟨by show 1 + Tm.szs (subs m ts) = 1 + Tm.szs ts; rw [this.1], by show 1 + Tm.deps (subs m ts) = 1 + Tm.deps ts; rw [this.2]⟩
theorem szs_sub_var (m : Int → Option Tm) (hm : ∀ n t, m n = some t → t.sz = 1 ∧ t.dep = 1) : ∀ ts : List Tm, Tm.szs (subs m ts) = Tm.szs ts ∧ Tm.deps (subs m ts) = Tm.deps ts
  | [] => ⟨rfl, rfl⟩
  | t :: ts => by
    have h1 := sz_sub_var m hm t
    have h2 := szs_sub_var m hm ts
    exact ⟨by show (sub m t).sz + Tm.szs (subs m ts) = t.sz + Tm.szs ts; rw [h1.1, h2.1], by show max (sub m t).dep (Tm.deps (subs m ts)) = max t.dep (Tm.deps ts); rw [h1.2, h2.2]⟩
end
theorem rnm_var (u : List Int) (n : Int) (t : Tm) (h : rnm u n = some t) : t.sz = 1 ∧ t.dep = 1 := by
  unfold rnm at h
  cases e : ix 0 u n with
  | none => rw [e] at h; cases h
  | some k => rw [e] at h; cases h; exact ⟨rfl, rfl⟩
mutual
theorem occ_wf {fs : List Str} {B : Int} : ∀ t : Tm, t.wf fs B → ∀ n ∈ occ t, 0 ≤ n ∧ n < B
  | .var k, w, n, h => by rw [List.mem_singleton.mp h]; exact w
  | .app f ts, w, n, h => occs_wf ts w.2 n h
theorem occs_wf {fs : List Str} {B : Int} : ∀ ts : List Tm, Tm.wfs fs B ts → ∀ n ∈ occs ts, 0 ≤ n ∧ n < B
  | [], _, _, h => nomatch h
  | t :: ts, w, n, h => by
    rcases List.mem_append.mp (show n ∈ occ t ++ occs ts from h) with h | h
    · exact occ_wf t w.1 n h
    · exact occs_wf ts w.2 n h
end
end J

/-! ### repr of data; a promise that holds while no repr is under way -/
namespace J
open PySem PySem.Spec PyProof.Rows L2
section
variable {P : Program} {w : World} {K : PySem.W.Frag} {mg : Str → Option Value} {base : Heap}
/-- the promise of a def, asked for only where nothing is being shown -/
structure Quiet (P : Program) (w : World) (K : PySem.W.Frag) (mg : Str → Option Value) (base : Heap) (k : Nat) (f : Addr) (fd : FuncData) (ps : List Str) (sp : Sp) : Prop where
  len : ∀ vs H Q E, sp vs H Q E → vs.length = ps.length
  run : ∀ (A : Around) (outer : List Env) (s : Shared) (H : Hp) (args : Args) (us : List Value) (vs : List V) (Q : VK) (E : XK), A.guards = some [] → Room k A → Env0 P w K mg base A outer s H → BindsTo s fd args (ps.zip us) → Vals vs us →
    sp vs H Q E → codeAny (model P w) A (.call (.ref f) args) (CR CX0 outer P w H s Q E) s
theorem quiet_of {x qual : Str} {st : Stmt} {f : Addr} {fd : FuncData} {N ps : List Str} {k : Nat} {sp : Sp} (F : Fun K x qual st f fd) (S : FnScope N ps (defScope st)) (len : ∀ vs H Q E, sp vs H Q E → vs.length = ps.length)
    (hbody : ∀ (cdv : Value) (A : Around) (outer : List Env) (s : Shared) (H : Hp) (vs : List V) (Q : VK) (E : XK), A.guards = some [] → Room k (A.deeper (envOfC qual (defScope st) s.heap.objs.size f cdv)) → sp vs H Q E →
      ∃ t, PSs (cxOf CX0 P w K mg base N qual (defScope st) f cdv A outer s H E).nox (defBody st) t ∧ t { nx := fun _ H' => Q .non H', rt := Q } (start N vs) H) : Quiet P w K mg base (k + 1) f fd ps sp := by
  obtain ⟨oc, od, kV, doc, pm, an, cdv, ct, osl, rfl, lk, hcd⟩ := F.ex
  refine ⟨len, fun A outer s H args us vs Q E hg hr e0 hb rv hsp => ?_⟩
  obtain ⟨t, ht, hq⟩ := hbody cdv A outer s H vs Q E hg (hr.deeper _) hsp
  have KX : K.In s.heap := e0.mod.kin.keeps fun b o e => (e0.bs b o e).1
  have par : ∀ y ∈ ps.zip us, (defScope st).names.lookup y.1 = some .local ∨ ((defScope st).names.lookup y.1 = some .cell ∧ ((cellsFrom (s.heap.objs.size + 1) (defScope st).names []).lookup y.1).isSome = true) := fun y hy =>
    (S.par y.1 (List.of_mem_zip (a := y.1) (b := y.2) hy).1).imp id fun q => ⟨q, PySem.W.cellsFrom_some _ _ _ (.inl q)⟩
  refine codeAny_call_function hr.depth (KX _ _ lk) rfl S.co S.gen rfl (PySem.W.codeRec_of KX hcd) (hb _ _ _ _ (wpAny_newFunctionEnv_cells S.kind par fun env he s1 x => ?_))
  subst he
  refine ⟨(e0.mod.nolimit.keeps fun b o e => (e0.bs b o e).1).keeps x.toInCall.keep, codeAny_func ?_⟩
  refine wpAny_mono (ht.nox.run [] s1 (start N vs) H _ (inv_start S hr.hd e0 (len _ _ _ _ hsp) rv x) hq) (fun fl s' hs => ?_) fun e s' hs => hs
  match fl, hs with
  | .ret u, ⟨v, σ', H', J, r, q⟩ => exact ⟨v, H', J.os, J.bare, J.base, J.hok, r, q⟩
  | .next, ⟨σ', H', J, q⟩ => exact ⟨.non, H', J.os, J.bare, J.base, J.hok, rfl, q⟩
  | .brk, ⟨_, _, _, q⟩ => exact q.elim
  | .cont, ⟨_, _, _, q⟩ => exact q.elim
end
section
variable {X : Cx} {k : Nat} {f : Addr} {fd : FuncData} {ps : List Str} {sp : Sp}
theorem quiet_run {pins : List (Addr × Obj)} {σ : L2.St} {H : Hp} {s : Shared} {Q : VK} {us : List Value} {vs : List V} (F : Quiet X.prog X.w X.K X.mg X.base k f fd ps sp) (hq : X.A.guards = some []) (hr : Room k X.A) (hb : Binds X.K fd ps [])
    (I : Inv X pins σ H s) (r : Vals vs us) (h : sp (vs ++ []) H Q E0) : wpAny (model X.prog X.w) X.A (call (.ref f) us) (EP X pins σ Q) X.xe s := by
  have r2 : Vals (vs ++ []) (us ++ []) := r.append .nil
  refine wpAny_call (codeAny_mono (F.run X.A X.stack s H ⟨us, []⟩ (us ++ []) (vs ++ []) Q E0 hq hr I.env0 (hb s us I.kIn (by rw [← r2.length]; exact F.len _ _ _ _ h)) r2 h) fun r s' z => ?_)
  match r, z with
  | .error _, z => exact z.elim
  | .ok (.ret u), z => exact I.after z
  | .ok .next, z => exact z.elim
  | .ok .brk, z => exact z.elim
  | .ok .cont, z => exact z.elim
theorem pe_callQ {x : Str} {p pos : Pos} {e : Expr} {es : List Expr} {t : TA} (F : Quiet X.prog X.w X.K X.mg X.base k f fd ps sp) (hq : X.A.guards = some []) (hr : Room k X.A) (hg : Gl X x) (hm : X.mg x = some (.ref f)) (hk : PySem.W.keepIn X.K (.ref f) = true) (hb : Binds X.K fd ps [])
    (ha : PA X (e :: es) t) (hdb : (x == ("__debug__" : Str)) = false := by decide) (he : starEach (e :: es) X.env = (false, eval e X.env) :: starEach es X.env := by rfl) (hpl : (backTo pos (starEach es X.env)).any (·.1) = false := by rfl) :
    PE X (.Call (.Name x p) (e :: es) [] pos) (tCall sp [] E0 t) :=
  ⟨fun pins s σ H Q I h => wpAny_Call_Name_kw (ld_glob I hg hm (PySem.W.callWith_K (h₀ := X.base) I.ok.mod.kin hk (thn (ha.run pos pins s σ H _ I h) fun us s1 ⟨vs, H1, I1, r, q⟩ => ⟨I1.kIn, quiet_run F hq hr hb I1 r q⟩) he hpl) hdb)⟩
/-- repr of lists and tuples -/
def rShow (X : Cx) : List V → Hp → VK → Prop := fun xs H Q => X.A.guards = some [] ∧ ∃ a d, xs = [.ref a] ∧ Dp X.K H (.ref a) d ∧ d.showable = true ∧ d.hasDict = false ∧ d.depth ≤ 60 ∧ d.shown.length ≤ sizeLine ∧ Q (.str d.shown) H
theorem call_show (hu : X.A.units + 64 < cLine) : CallR X (.builtin "repr") (rShow X) := by
  intro pins s σ H xs us Q I r h
  obtain ⟨hg, a, d, rfl, hd, hs, hn, hp, hz, q⟩ := h
  cases r with
  | cons r rr =>
    cases rr
    cases r
    obtain ⟨as, rd⟩ := Dp.reads I d _ _ hd rfl
    exact repr_of_reads' rd hs (fun z => by rw [hn] at z; cases z) hg (by omega) (fun _ _ e => e) (fun h' u tk hk => ⟨.str d.shown, H, I.kept hk, ⟨u, rfl⟩, q⟩) hz
end
end J

/-! ### data that may be shown -/
namespace J
open PySem L2
structure Shw (D B : Nat) (d : PyData) : Prop where
  sh : d.showable = true
  nd : d.hasDict = false
  dp : d.depth ≤ D
  ln : d.shown.length ≤ B
theorem Shw.mono {D B D' B' : Nat} {d : PyData} (h : Shw D B d) (h1 : D ≤ D') (h2 : B ≤ B') : Shw D' B' d := ⟨h.sh, h.nd, Nat.le_trans h.dp h1, Nat.le_trans h.ln h2⟩
theorem shw_all {D B : Nat} : ∀ {ds : List PyData}, (∀ d ∈ ds, Shw D B d) → PyData.showableAll ds = true ∧ PyData.hasDictAll ds = false ∧ PyData.depthAll ds ≤ D ∧ ((PyData.shownAll ds).map (·.length)).sum ≤ B * ds.length ∧ (PyData.shownAll ds).length = ds.length
  | [], _ => ⟨rfl, rfl, Nat.zero_le _, Nat.zero_le _, rfl⟩
  | d :: ds, h => by
    obtain ⟨a, b, c, e, f⟩ := shw_all fun x hx => h x (List.mem_cons_of_mem _ hx)
    obtain ⟨h1, h2, h3, h4⟩ := h d (List.mem_cons_self ..)
    refine ⟨by show (d.showable && PyData.showableAll ds) = true; rw [h1, a]; rfl, by show (d.hasDict || PyData.hasDictAll ds) = false; rw [h2, b]; rfl, by show max d.depth (PyData.depthAll ds) ≤ D; omega, ?_, congrArg (· + 1) f⟩
    show d.shown.length + ((PyData.shownAll ds).map (·.length)).sum ≤ B * (ds.length + 1)
    rw [Nat.mul_add, Nat.mul_one]; omega
theorem shw_list {D B : Nat} {ds : List PyData} (h : ∀ d ∈ ds, Shw D B d) : Shw (D + 1) ((B + 2) * ds.length + 3) (.list ds) := by
  obtain ⟨a, b, c, e, f⟩ := shw_all h
  refine ⟨a, b, Nat.succ_le_succ c, ?_⟩
  have := listText_len_le (PyData.shownAll ds)
  rw [f] at this
  refine Nat.le_trans this ?_
  rw [Nat.add_mul]; omega
theorem shw_tuple {D B : Nat} {ds : List PyData} (h : ∀ d ∈ ds, Shw D B d) : Shw (D + 1) ((B + 2) * ds.length + 3) (.tuple ds) := by
  obtain ⟨a, b, c, e, f⟩ := shw_all h
  refine ⟨a, b, Nat.succ_le_succ c, ?_⟩
  have := tupleText_len_le (PyData.shownAll ds)
  rw [f] at this
  refine Nat.le_trans this ?_
  rw [Nat.add_mul]; omega
theorem log_of_lt {n k : Nat} (h : n < 2 ^ k) (hk : 0 < k) : n.log2 < k := by
  by_cases z : n = 0
  · subst z; exact hk
  · exact (Nat.log2_lt z).mpr h
theorem shw_int {i : Int} (h : i.natAbs < 10 ^ 12) : Shw 0 13 (.int i) := by
  refine ⟨?_, rfl, Nat.le_refl _, PyData.shown_int_le h⟩
  show decide (i.natAbs.log2 < 1920) = true
  refine decide_eq_true (Nat.lt_trans (log_of_lt (k := 40) (Nat.lt_trans h (by decide)) (by decide)) (by decide))
theorem shw_str {x : Str} (h : ∀ c ∈ x.cps.toList, c < 16 ^ 8) : Shw 0 (10 * x.length + 2) (.str x) := ⟨rfl, rfl, Nat.le_refl _, StrLaws.reprText_len x h⟩
theorem dp_ints {K : PySem.W.Frag} {H : Hp} : ∀ q : List Int, DpAll K H (q.map V.int) (q.map PyData.int)
  | [] => .nil
  | _ :: q => .cons (.int _) (dp_ints q)
theorem dp_all {K : PySem.W.Frag} {H : Hp} : ∀ {vs : List V} {ds : List PyData}, vs.length = ds.length → (∀ (k : Nat) v d, vs[k]? = some v → ds[k]? = some d → Dp K H v d) → DpAll K H vs ds
  | [], [], _, _ => .nil
  | [], _ :: _, h, _ => nomatch h
  | _ :: _, [], h, _ => nomatch h
  | v :: vs, d :: ds, h, f => .cons (f 0 v d rfl rfl) (dp_all (Nat.succ.inj h) fun k v d e1 e2 => f (k + 1) v d e1 e2)
end J

/-! ### repr of a table of terms -/
namespace J
open PySem PySem.Spec PyProof.Rows L2
mutual
def tmD : Tm → PyData
  | .var n => .int n
  | .app f ts => .tuple (.str f :: tmDs ts)
def tmDs : List Tm → List PyData
  | [] => []
  | t :: ts => tmD t :: tmDs ts
end
/-- the table at its entries, in their order -/
def TbIn (H : Hp) : List (Key × V) → List (Int × Tm) → Prop
  | [], [] => True
  | kv :: r, x :: l => kv.1 = .inl x.1 ∧ TmIn H x.2 kv.2 ∧ TbIn H r l
  | _, _ => False
def tbD (l : List (Int × Tm)) : PyData := .dict (l.map fun x => (.int x.1, tmD x.2))
section
variable {X : Cx} {pins : List (Addr × Obj)} {σ : L2.St} {H : Hp} {s : Shared}
mutual
theorem tm_reads (I : Inv X pins σ H s) : ∀ (t : Tm) (v : V) (u : Value), TmIn H t v → RelV v u → Reads s.heap u (tmD t) []
  | .var n, v, u, h, r => by
    cases (show v = .int n from h)
    obtain ⟨t, rfl⟩ := r
    exact Reads.int n t
  | .app f ts, v, u, h, r => by
    obtain ⟨a, vs, rfl, ha, hts⟩ := h
    cases (show u = .ref a from r)
    obtain ⟨its, rv, ⟨o, e, hc, n, hd⟩, _⟩ := I.tuple (SqT.of ha)
    refine Reads.tuple e hc hd ?_
    cases rv with
    | cons r1 rr =>
      obtain ⟨tk, rfl⟩ := r1
      exact ReadsAll.cons (as := []) (Reads.str f tk) (tms_reads I ts vs _ hts rr)
theorem tms_reads (I : Inv X pins σ H s) : ∀ (ts : List Tm) (vs : List V) (us : List Value), TmsIn H ts vs → Vals vs us → ReadsAll s.heap us (tmDs ts) []
  | [], vs, us, h, r => by
    cases (show vs = [] from h)
    cases r
    exact ReadsAll.nil
  | t :: ts, vs, us, h, r => by
    obtain ⟨v, w, rfl, h1, h2⟩ := h
    cases r with
    | cons r1 rr => exact ReadsAll.cons (as := []) (tm_reads I t v _ h1 r1) (tms_reads I ts w _ h2 rr)
end
end
mutual
theorem tmD_shw {fs : List Str} {B : Int} (hn : Names fs) (hB : B ≤ 1000) : ∀ t : Tm, t.wf fs B → (tmD t).showable = true ∧ (tmD t).hasDict = false ∧ (tmD t).depth ≤ t.dep ∧ (tmD t).shown.length + 10 ≤ 90 * t.sz
  | .var n, w => by
    have w : 0 ≤ n ∧ n < B := w
    have h := shw_int (i := n) (Nat.lt_trans (show n.natAbs < 10000 by omega) (by decide))
    have := h.ln
    exact ⟨h.sh, h.nd, Nat.zero_le _, by show (PyData.int n).shown.length + 10 ≤ 90 * 1; omega⟩
  | .app f ts, w => by
    obtain ⟨⟨k, hk, _⟩, w⟩ := (show (∃ k, fs[k]? = some f ∧ ts.length = ar k) ∧ Tm.wfs fs B ts from w)
    have hf := List.mem_of_getElem? hk
    have h1 := hn.hi f hf
    have h2 := shw_str (x := f) fun c hc => Nat.lt_of_le_of_lt (hn.low f hf c hc).2 (by decide)
    obtain ⟨a, b, c, d, e⟩ := tmDs_shw hn hB ts w
    refine ⟨by show ((PyData.str f).showable && PyData.showableAll (tmDs ts)) = true; rw [h2.sh, a]; rfl, by show ((PyData.str f).hasDict || PyData.hasDictAll (tmDs ts)) = false; rw [h2.nd, b]; rfl, ?_, ?_⟩
    · show max (PyData.str f).depth (PyData.depthAll (tmDs ts)) + 1 ≤ 1 + Tm.deps ts
      have : (PyData.str f).depth = 0 := rfl
      omega
    · have h3 := tupleText_len_le (PyData.shownAll (.str f :: tmDs ts))
      have h4 := h2.ln
      have e1 : ((PyData.shownAll (.str f :: tmDs ts)).map (·.length)).sum = (PyData.str f).shown.length + ((PyData.shownAll (tmDs ts)).map (·.length)).sum := rfl
      have e2 : (PyData.shownAll (.str f :: tmDs ts)).length = (PyData.shownAll (tmDs ts)).length + 1 := rfl
      show (tupleText (PyData.shownAll (.str f :: tmDs ts))).length + 10 ≤ 90 * (1 + Tm.szs ts)
      omega
theorem tmDs_shw {fs : List Str} {B : Int} (hn : Names fs) (hB : B ≤ 1000) : ∀ ts : List Tm, Tm.wfs fs B ts → PyData.showableAll (tmDs ts) = true ∧ PyData.hasDictAll (tmDs ts) = false ∧ PyData.depthAll (tmDs ts) ≤ Tm.deps ts ∧ ((PyData.shownAll (tmDs ts)).map (·.length)).sum + 10 * ts.length ≤ 90 * Tm.szs ts ∧ (PyData.shownAll (tmDs ts)).length = ts.length
  | [], _ => ⟨rfl, rfl, Nat.zero_le _, Nat.zero_le _, rfl⟩
  | t :: ts, w => by
    obtain ⟨a, b, c, d⟩ := tmD_shw hn hB t w.1
    obtain ⟨a', b', c', d', e'⟩ := tmDs_shw hn hB ts w.2
    refine ⟨by show ((tmD t).showable && PyData.showableAll (tmDs ts)) = true; rw [a, a']; rfl, by show ((tmD t).hasDict || PyData.hasDictAll (tmDs ts)) = false; rw [b, b']; rfl, ?_, ?_, congrArg (· + 1) e'⟩
    · show max (tmD t).depth (PyData.depthAll (tmDs ts)) ≤ max t.dep (Tm.deps ts); omega
    · show (tmD t).shown.length + ((PyData.shownAll (tmDs ts)).map (·.length)).sum + 10 * (ts.length + 1) ≤ 90 * (t.sz + Tm.szs ts)
      omega
end
theorem tbD_shw {fs : List Str} {B : Int} (hn : Names fs) (hB : B ≤ 1000) : ∀ l : List (Int × Tm), (∀ x ∈ l, x.1.natAbs < 10000 ∧ x.2.wf fs B ∧ x.2.sz ≤ 1000 ∧ x.2.dep ≤ 50) →
    PyData.showableKv (l.map fun x => (PyData.int x.1, tmD x.2)) = true ∧ PyData.depthKv (l.map fun x => (PyData.int x.1, tmD x.2)) ≤ 50 ∧ ((PyData.shownKv (l.map fun x => (PyData.int x.1, tmD x.2))).map (·.length)).sum ≤ 90100 * l.length ∧ (PyData.shownKv (l.map fun x => (PyData.int x.1, tmD x.2))).length = l.length
  | [], _ => ⟨rfl, Nat.zero_le _, Nat.zero_le _, rfl⟩
  | x :: l, h => by
    obtain ⟨a, b, c, d⟩ := tbD_shw hn hB l fun y hy => h y (List.mem_cons_of_mem _ hy)
    obtain ⟨h1, h2, h3, h4⟩ := h x (List.mem_cons_self ..)
    have hi := shw_int (i := x.1) (Nat.lt_trans h1 (by decide))
    obtain ⟨s1, _, s3, s4⟩ := tmD_shw hn hB x.2 h2
    refine ⟨by show ((PyData.int x.1).showable && (tmD x.2).showable && PyData.showableKv _) = true; rw [hi.sh, s1, a]; rfl, ?_, ?_, congrArg (· + 1) d⟩
    · show max (max (PyData.int x.1).depth (tmD x.2).depth) (PyData.depthKv _) ≤ 50
      have : (PyData.int x.1).depth = 0 := rfl
      omega
    · show ((PyData.int x.1).shown ++ ": " ++ (tmD x.2).shown).length + ((PyData.shownKv (l.map fun x => (PyData.int x.1, tmD x.2))).map (·.length)).sum ≤ 90100 * (l.length + 1)
      rw [len_app, len_app]
      have e : (": " : Str).length = 2 := by decide +kernel
      have := hi.ln
      omega
theorem TbIn.length {H : Hp} : ∀ {kvs : List (Key × V)} {l : List (Int × Tm)}, TbIn H kvs l → kvs.length = l.length
  | [], [], _ => rfl
  | [], _ :: _, h => h.elim
  | _ :: _, [], h => h.elim
  | _ :: _, _ :: _, h => congrArg (· + 1) (TbIn.length h.2.2)
theorem TbIn.tu {H H' : Hp} (t : Tu H H') : ∀ {kvs : List (Key × V)} {l : List (Int × Tm)}, TbIn H kvs l → TbIn H' kvs l
  | [], [], _ => trivial
  | [], _ :: _, h => h.elim
  | _ :: _, [], h => h.elim
  | _ :: _, _ :: _, h => ⟨h.1, h.2.1.tu t, TbIn.tu t h.2.2⟩
theorem TbIn.snoc {H : Hp} {n : Int} {t : Tm} {v : V} (ht : TmIn H t v) : ∀ {kvs : List (Key × V)} {l : List (Int × Tm)}, TbIn H kvs l → TbIn H (kvs ++ [(.inl n, v)]) (l ++ [(n, t)])
  | [], [], _ => ⟨rfl, ht, trivial⟩
  | [], _ :: _, h => h.elim
  | _ :: _, [], h => h.elim
  | _ :: _, _ :: _, h => ⟨h.1, h.2.1, TbIn.snoc ht h.2.2⟩
def look : List (Int × Tm) → Int → Option Tm
  | [], _ => none
  | x :: l, n => if x.1 = n then some x.2 else look l n
theorem TbIn.val {H : Hp} (n : Int) : ∀ {kvs : List (Key × V)} {l : List (Int × Tm)}, TbIn H kvs l → match look l n with
    | none => valV kvs (.inl n) = none
    | some t => ∃ v, valV kvs (.inl n) = some v ∧ TmIn H t v
  | [], [], _ => rfl
  | [], _ :: _, h => h.elim
  | _ :: _, [], h => h.elim
  | kv :: r, x :: l, h => by
    by_cases e : x.1 = n
    · rw [show look (x :: l) n = some x.2 from if_pos e]
      exact ⟨kv.2, valV_pos (by rw [h.1, e]), h.2.1⟩
    · rw [show look (x :: l) n = look l n from if_neg e, valV_neg (by rw [h.1]; exact fun z => e (Sum.inl.inj z))]
      exact TbIn.val n h.2.2
theorem TbIn.sb {H : Hp} {d : Addr} {kvs : List (Key × V)} {l : List (Int × Tm)} (h : H d = some (.dK kvs)) (t : TbIn H kvs l) : SbIn H d (look l) := ⟨kvs, h, fun n => t.val n⟩
theorem look_mem {n : Int} {t : Tm} : ∀ {l : List (Int × Tm)}, look l n = some t → (n, t) ∈ l
  | [], h => nomatch h
  | x :: l, h => by
    by_cases e : x.1 = n
    · rw [show look (x :: l) n = some x.2 from if_pos e] at h
      cases h
      rw [← e]; exact List.mem_cons_self ..
    · rw [show look (x :: l) n = look l n from if_neg e] at h
      exact List.mem_cons_of_mem _ (look_mem h)
theorem look_none {n : Int} : ∀ {l : List (Int × Tm)}, (∀ x ∈ l, x.1 ≠ n) → look l n = none
  | [], _ => rfl
  | x :: l, h => by
    rw [show look (x :: l) n = look l n from if_neg (h x (List.mem_cons_self ..))]
    exact look_none fun y hy => h y (List.mem_cons_of_mem _ hy)
section
variable {X : Cx} {pins : List (Addr × Obj)} {σ : L2.St} {H : Hp} {s : Shared}
theorem tb_keys (h : Heap) : ∀ {kvs : List (Key × V)} {l : List (Int × Tm)} {vs : List (Key × Value)} {es : List DictEntry} {P : Program} {w : World}, TbIn H kvs l → KV kvs vs → Pairs (mixKind P w) es vs → ReadsAll h (es.map (·.key)) ((l.map fun x => (PyData.int x.1, tmD x.2)).map (·.1)) []
  | [], [], _, _, _, _, _, k, p => by
    cases k; cases p
    exact ReadsAll.nil
  | [], _ :: _, _, _, _, _, h, _, _ => h.elim
  | _ :: _, [], _, _, _, _, h, _, _ => h.elim
  | kv :: r, x :: l, _, _, _, _, ⟨e, _, h2⟩, k, p => by
    cases k with
    | cons k1 kr =>
      cases p with
      | cons p1 p2 pr =>
        have p1 : keyIs _ _ = true := p1
        rw [← k1.1, e] at p1
        rcases keyIs_shape p1 with ⟨i, t, e1, e2⟩ | ⟨y, t, e1, _⟩
        · cases e1
          refine ReadsAll.cons (as := []) ?_ (tb_keys h h2 kr pr)
          show Reads h (DictEntry.key _) _ _
          rw [e2]
          exact Reads.int _ t
        · cases e1
theorem tb_vals (I : Inv X pins σ H s) : ∀ {kvs : List (Key × V)} {l : List (Int × Tm)} {vs : List (Key × Value)} {es : List DictEntry} {P : Program} {w : World}, TbIn H kvs l → KV kvs vs → Pairs (mixKind P w) es vs → ReadsAll s.heap (es.map (·.val)) ((l.map fun x => (PyData.int x.1, tmD x.2)).map (·.2)) []
  | [], [], _, _, _, _, _, k, p => by
    cases k; cases p
    exact ReadsAll.nil
  | [], _ :: _, _, _, _, _, h, _, _ => h.elim
  | _ :: _, [], _, _, _, _, h, _, _ => h.elim
  | kv :: r, x :: l, _, _, _, _, ⟨_, h1, h2⟩, k, p => by
    cases k with
    | cons k1 kr =>
      cases p with
      | cons p1 p2 pr =>
        refine ReadsAll.cons (as := []) ?_ (tb_vals I h2 kr pr)
        show Reads s.heap (DictEntry.val _) _ _
        rw [p2]
        exact tm_reads I _ _ _ h1 k1.2
/-- repr of a table -/
def rShowT (X : Cx) : List V → Hp → VK → Prop := fun xs H Q => X.A.guards = some [] ∧ ∃ a kvs l fs, ∃ B : Int, xs = [.ref a] ∧ H a = some (.dK kvs) ∧ TbIn H kvs l ∧ Names fs ∧ B ≤ 1000 ∧ (∀ x ∈ l, x.1.natAbs < 10000 ∧ x.2.wf fs B ∧ x.2.sz ≤ 1000 ∧ x.2.dep ≤ 50) ∧ l.length ≤ 30 ∧ Q (.str (tbD l).shown) H
theorem call_showT (hu : X.A.units + 64 < cLine) : CallR X (.builtin "repr") (rShowT X) := by
  intro pins s σ H xs us Q I r h
  obtain ⟨hg, a, kvs, l, fs, B, rfl, ha, ht, hn, hB, hl, hz, q⟩ := h
  obtain ⟨a1, a2, a3, a4⟩ := tbD_shw hn hB l hl
  cases r with
  | cons r rr =>
    cases rr
    cases r
    obtain ⟨_, hS, vs, k, o, es, ep, e, ⟨hc, _, _⟩, hd, _, pr, _⟩ := dk_of I.hok ha
    have rd : Reads s.heap (.ref a) (tbD l) (a :: [] ++ []) := Reads.dict e hc hd (tb_keys s.heap ht k pr) (tb_vals I ht k pr)
    have hln : (tbD l).shown.length ≤ sizeLine := by
      refine Nat.le_trans (dictText_len_le _) (Nat.le_trans (show _ ≤ 3000000 from ?_) (by decide))
      rw [a4]; omega
    have hdp : (tbD l).depth ≤ 51 := Nat.succ_le_succ a2
    refine repr_of_reads' rd a1 (fun _ z => ?_) hg (by omega) (fun _ _ e => e) (fun h' u tk hk => ⟨.str (tbD l).shown, H, I.kept hk, ⟨u, rfl⟩, q⟩) hln
    rcases List.mem_cons.mp z with z | z
    · rw [← z, beq_self_eq_true] at hS; cases hS
    · cases z
end
end J

/-! ### steps: a pattern with the variable 9 at one place -/
namespace J
open PySem L2
mutual
theorem sub_id (m : Int → Option Tm) : ∀ t : Tm, (∀ n ∈ occ t, (m n).getD (.var n) = .var n) → sub m t = t
  | .var n, h => h n (List.mem_singleton.mpr rfl)
  | .app f ts, h => congrArg (Tm.app f) (subs_id m ts h)
theorem subs_id (m : Int → Option Tm) : ∀ ts : List Tm, (∀ n ∈ occs ts, (m n).getD (.var n) = .var n) → subs m ts = ts
  | [], _ => rfl
  | t :: ts, h => by
    show sub m t :: subs m ts = t :: ts
    rw [sub_id m t fun n hn => h n (List.mem_append.mpr (.inl hn)), subs_id m ts fun n hn => h n (List.mem_append.mpr (.inr hn))]
end
theorem occs_mem {n : Int} : ∀ {ts : List Tm}, n ∈ occs ts ↔ ∃ t ∈ ts, n ∈ occ t
  | [] => ⟨fun h => (nomatch h), fun ⟨_, h, _⟩ => nomatch h⟩
  | t :: ts => by
    show n ∈ occ t ++ occs ts ↔ _
    rw [List.mem_append, occs_mem (ts := ts)]
    constructor
    · rintro (h | ⟨u, h1, h2⟩)
      · exact ⟨t, List.mem_cons_self .., h⟩
      · exact ⟨u, List.mem_cons_of_mem _ h1, h2⟩
    · rintro ⟨u, h1, h2⟩
      rcases List.mem_cons.mp h1 with e | h1
      · rw [e] at h2; exact .inl h2
      · exact .inr ⟨u, h1, h2⟩
/-- what stood there, put in again -/
theorem sub_rep (m : Int → Option Tm) {z : Int} {c : Tm} (hz : (m z).getD (.var z) = c) : ∀ (q : List Int) (t : Tm), at? q t = some c → z ∉ occ t → (∀ n ∈ occ (rep (.var z) q t), n ≠ z → (m n).getD (.var n) = .var n) → sub m (rep (.var z) q t) = t
  | [], t, h, _, _ => by
    cases (show some t = some c from h)
    exact hz
  | k :: q, .var _, h, _, _ => nomatch h
  | k :: q, .app f ts, h, ho, hi => by
    rw [at_cons_app] at h
    by_cases h1 : 1 ≤ k
    · rw [if_pos h1] at h
      cases ht : ts[(k - 1).toNat]? with
      | none => rw [ht] at h; cases h
      | some t =>
        rw [ht] at h
        have h : at? q t = some c := h
        have hk := (List.getElem?_eq_some_iff.mp ht).1
        have e : ts.getD (k - 1).toNat (.var z) = t := by rw [List.getD_eq_getElem?_getD, ht]; rfl
        have ho : z ∉ occs ts := ho
        have hi : ∀ n ∈ occs (ts.set (k - 1).toNat (rep (.var z) q (ts.getD (k - 1).toNat (.var z)))), n ≠ z → (m n).getD (.var n) = .var n := hi
        rw [e] at hi
        have mt := List.mem_of_getElem? ht
        have ih := sub_rep m hz q t h (fun w => ho (occs_mem.mpr ⟨t, mt, w⟩)) fun n hn => hi n (occs_mem.mpr ⟨_, List.mem_set hk _, hn⟩)
        show Tm.app f (subs m (ts.set (k - 1).toNat (rep (.var z) q (ts.getD (k - 1).toNat (.var z))))) = .app f ts
        rw [e]
        congr 1
        rw [subs_map]
        refine List.ext_getElem? fun j => ?_
        rw [List.getElem?_map, List.getElem?_set]
        by_cases hj : (k - 1).toNat = j
        · subst hj
          rw [if_pos rfl, if_pos hk, ht]
          exact congrArg some ih
        · rw [if_neg hj]
          cases gj : ts[j]? with
          | none => rfl
          | some u =>
            refine congrArg some (sub_id m u fun n hn => ?_)
            have mu := List.mem_of_getElem? gj
            refine hi n (occs_mem.mpr ⟨u, ?_, hn⟩) fun w => ho (occs_mem.mpr ⟨u, mu, by rw [← w]; exact hn⟩)
            exact List.mem_of_getElem? (i := j) (by rw [List.getElem?_set, if_neg hj, gj])
    · rw [if_neg h1] at h; cases h
end J

/-! ### sizes, places and variables behind a substitution and a replacement -/
namespace J
open PySem L2
mutual
theorem sub_szM (m : Int → Option Tm) (M D : Nat) (h1 : 1 ≤ M) : ∀ t : Tm, (∀ n ∈ occ t, ((m n).getD (.var n)).sz ≤ M ∧ ((m n).getD (.var n)).dep ≤ 1 + D) → (sub m t).sz ≤ M * t.sz ∧ (sub m t).dep ≤ t.dep + D
  | .var n, h => by
    have := h n (List.mem_singleton.mpr rfl)
    show ((m n).getD (.var n)).sz ≤ M * 1 ∧ ((m n).getD (.var n)).dep ≤ 1 + D
    rw [Nat.mul_one]; exact this
  | .app f ts, h => by
    have := subs_szM m M D h1 ts h
    show 1 + Tm.szs (subs m ts) ≤ M * (1 + Tm.szs ts) ∧ 1 + Tm.deps (subs m ts) ≤ 1 + Tm.deps ts + D
    rw [Nat.mul_add]
    omega
theorem subs_szM (m : Int → Option Tm) (M D : Nat) (h1 : 1 ≤ M) : ∀ ts : List Tm, (∀ n ∈ occs ts, ((m n).getD (.var n)).sz ≤ M ∧ ((m n).getD (.var n)).dep ≤ 1 + D) → Tm.szs (subs m ts) ≤ M * Tm.szs ts ∧ Tm.deps (subs m ts) ≤ Tm.deps ts + D
  | [], _ => ⟨Nat.zero_le _, Nat.zero_le _⟩
  | t :: ts, h => by
    have a := sub_szM m M D h1 t fun n hn => h n (List.mem_append.mpr (.inl hn))
    have b := subs_szM m M D h1 ts fun n hn => h n (List.mem_append.mpr (.inr hn))
    show (sub m t).sz + Tm.szs (subs m ts) ≤ M * (t.sz + Tm.szs ts) ∧ max (sub m t).dep (Tm.deps (subs m ts)) ≤ max t.dep (Tm.deps ts) + D
    rw [Nat.mul_add]
    omega
end
mutual
theorem sub_wf {fs : List Str} {B C : Int} (m : Int → Option Tm) : ∀ t : Tm, t.wf fs B → (∀ n ∈ occ t, ((m n).getD (.var n)).wf fs C) → (sub m t).wf fs C
  | .var n, _, h => h n (List.mem_singleton.mpr rfl)
  | .app f ts, w, h => by
    obtain ⟨⟨k, h1, h2⟩, w⟩ := (show (∃ k, fs[k]? = some f ∧ ts.length = ar k) ∧ Tm.wfs fs B ts from w)
    exact ⟨⟨k, h1, by rw [subs_map, List.length_map]; exact h2⟩, subs_wf m ts w h⟩
theorem subs_wf {fs : List Str} {B C : Int} (m : Int → Option Tm) : ∀ ts : List Tm, Tm.wfs fs B ts → (∀ n ∈ occs ts, ((m n).getD (.var n)).wf fs C) → Tm.wfs fs C (subs m ts)
  | [], _, _ => trivial
  | t :: ts, w, h => ⟨sub_wf m t w.1 fun n hn => h n (List.mem_append.mpr (.inl hn)), subs_wf m ts w.2 fun n hn => h n (List.mem_append.mpr (.inr hn))⟩
end
theorem at_wf {fs : List Str} {B : Int} : ∀ (q : List Int) (t c : Tm), at? q t = some c → t.wf fs B → c.wf fs B
  | [], t, c, h, w => by cases (show some t = some c from h); exact w
  | k :: q, .var _, _, h, _ => nomatch h
  | k :: q, .app f ts, c, h, w => by
    rw [at_cons_app] at h
    by_cases h1 : 1 ≤ k
    · rw [if_pos h1] at h
      cases ht : ts[(k - 1).toNat]? with
      | none => rw [ht] at h; cases h
      | some t =>
        rw [ht] at h
        exact at_wf q t c h (Tm.wf_of_mem w.2 (List.mem_of_getElem? ht))
    · rw [if_neg h1] at h; cases h
theorem at_occ : ∀ (q : List Int) (t c : Tm), at? q t = some c → ∀ n ∈ occ c, n ∈ occ t
  | [], t, c, h, n, hn => by cases (show some t = some c from h); exact hn
  | k :: q, .var _, _, h, _, _ => nomatch h
  | k :: q, .app f ts, c, h, n, hn => by
    rw [at_cons_app] at h
    by_cases h1 : 1 ≤ k
    · rw [if_pos h1] at h
      cases ht : ts[(k - 1).toNat]? with
      | none => rw [ht] at h; cases h
      | some t =>
        rw [ht] at h
        exact occs_mem.mpr ⟨t, List.mem_of_getElem? ht, at_occ q t c h n hn⟩
    · rw [if_neg h1] at h; cases h
theorem at_len : ∀ (q : List Int) (t c : Tm), at? q t = some c → q.length + c.dep ≤ t.dep
  | [], t, c, h => by cases (show some t = some c from h); show 0 + t.dep ≤ t.dep; omega
  | k :: q, .var _, _, h => nomatch h
  | k :: q, .app f ts, c, h => by
    rw [at_cons_app] at h
    by_cases h1 : 1 ≤ k
    · rw [if_pos h1] at h
      cases ht : ts[(k - 1).toNat]? with
      | none => rw [ht] at h; cases h
      | some t =>
        rw [ht] at h
        have ih := at_len q t c h
        have := Tm.dep_of_mem (List.mem_of_getElem? ht)
        show q.length + 1 + c.dep ≤ 1 + Tm.deps ts
        omega
    · rw [if_neg h1] at h; cases h
theorem szs_set : ∀ (l : List Tm) (j : Nat) (x y : Tm), l[j]? = some y → Tm.szs (l.set j x) + y.sz = Tm.szs l + x.sz
  | [], j, x, y, h => by simp at h
  | a :: r, 0, x, y, h => by
    have h : a = y := by simpa using h
    subst h
    show x.sz + Tm.szs r + a.sz = a.sz + Tm.szs r + x.sz
    omega
  | a :: r, j + 1, x, y, h => by
    have := szs_set r j x y (by simpa using h)
    show a.sz + Tm.szs (r.set j x) + y.sz = a.sz + Tm.szs r + x.sz
    omega
/-- what goes and what comes -/
theorem rep_sz (u : Tm) : ∀ (q : List Int) (t c : Tm), at? q t = some c → (rep u q t).sz + c.sz = t.sz + u.sz
  | [], t, c, h => by cases (show some t = some c from h); show u.sz + t.sz = t.sz + u.sz; omega
  | k :: q, .var _, _, h => nomatch h
  | k :: q, .app f ts, c, h => by
    rw [at_cons_app] at h
    by_cases h1 : 1 ≤ k
    · rw [if_pos h1] at h
      cases ht : ts[(k - 1).toNat]? with
      | none => rw [ht] at h; cases h
      | some t =>
        rw [ht] at h
        have ih := rep_sz u q t c h
        have e : ts.getD (k - 1).toNat u = t := by rw [List.getD_eq_getElem?_getD, ht]; rfl
        have := szs_set ts (k - 1).toNat (rep u q t) t ht
        show 1 + Tm.szs (ts.set (k - 1).toNat (rep u q (ts.getD (k - 1).toNat u))) + c.sz = 1 + Tm.szs ts + u.sz
        rw [e]
        omega
    · rw [if_neg h1] at h; cases h
/-- the variables of a term in which something was put -/
theorem occ_rep (u : Tm) : ∀ (q : List Int) (t : Tm), IsPos q t → ∀ n, n ∈ occ (rep u q t) → n ∈ occ t ∨ n ∈ occ u
  | [], _, _, _, h => .inr h
  | k :: q, .var _, h, _, _ => h.elim
  | k :: q, .app f ts, ⟨h1, t, ht, hp⟩, n, hn => by
    have e : ts.getD (k - 1).toNat u = t := by rw [List.getD_eq_getElem?_getD, ht]; rfl
    have hn : n ∈ occs (ts.set (k - 1).toNat (rep u q (ts.getD (k - 1).toNat u))) := hn
    rw [e] at hn
    obtain ⟨w, hw, hn⟩ := occs_mem.mp hn
    rcases List.mem_or_eq_of_mem_set hw with z | z
    · exact .inl (occs_mem.mpr ⟨w, z, hn⟩)
    · rw [z] at hn
      rcases occ_rep u q t hp n hn with z | z
      · exact .inl (occs_mem.mpr ⟨t, List.mem_of_getElem? ht, z⟩)
      · exact .inr z
theorem occ_rep_in (u : Tm) : ∀ (q : List Int) (t : Tm), IsPos q t → ∀ n ∈ occ u, n ∈ occ (rep u q t)
  | [], _, _, _, h => h
  | k :: q, .var _, h, _, _ => h.elim
  | k :: q, .app f ts, ⟨h1, t, ht, hp⟩, n, hn => by
    have hk := (List.getElem?_eq_some_iff.mp ht).1
    have e : ts.getD (k - 1).toNat u = t := by rw [List.getD_eq_getElem?_getD, ht]; rfl
    show n ∈ occs (ts.set (k - 1).toNat (rep u q (ts.getD (k - 1).toNat u)))
    rw [e]
    exact occs_mem.mpr ⟨_, List.mem_set hk _, occ_rep_in u q t hp n hn⟩
/-- a place stays a place -/
theorem isPos_sub (m : Int → Option Tm) : ∀ (q : List Int) (t : Tm), IsPos q t → IsPos q (sub m t)
  | [], _, _ => trivial
  | k :: q, .var _, h => h.elim
  | k :: q, .app f ts, ⟨h1, t, ht, hp⟩ => ⟨h1, sub m t, by rw [subs_map, List.getElem?_map, ht]; rfl, isPos_sub m q t hp⟩
theorem sub_rep_out (m : Int → Option Tm) (u : Tm) : ∀ (q : List Int) (t : Tm), IsPos q t → sub m (rep u q t) = rep (sub m u) q (sub m t)
  | [], _, _ => rfl
  | k :: q, .var _, h => h.elim
  | k :: q, .app f ts, ⟨h1, t, ht, hp⟩ => by
    have e : ts.getD (k - 1).toNat u = t := by rw [List.getD_eq_getElem?_getD, ht]; rfl
    have e2 : (subs m ts).getD (k - 1).toNat (sub m u) = sub m t := by rw [List.getD_eq_getElem?_getD, subs_map, List.getElem?_map, ht]; rfl
    show Tm.app f (subs m (ts.set (k - 1).toNat (rep u q (ts.getD (k - 1).toNat u)))) = Tm.app f ((subs m ts).set (k - 1).toNat (rep (sub m u) q ((subs m ts).getD (k - 1).toNat (sub m u))))
    rw [e, e2, subs_map, List.map_set, sub_rep_out m u q t hp, ← subs_map]
/-- xs[-1] -/
theorem at_neg1 {xs : List V} {v : V} (h : xs[xs.length - 1]? = some v) : atI xs (0 - 1) = some v := by
  have hn : xs ≠ [] := fun z => by rw [z] at h; simp at h
  have h1 := List.dropLast_concat_getLast hn
  have h2 : xs.getLast hn = v := by rw [List.getLast_eq_getElem]; exact (List.getElem?_eq_some_iff.mp h).2
  rw [← h1, h2]; exact atI_last _ _
theorem pos_ints : ∀ (q : List Int) (t : Tm), IsPos q t → ∀ k ∈ q, 1 ≤ k ∧ k ≤ (t.sz : Int)
  | [], _, _, k, hk => nomatch hk
  | _ :: _, .var _, h, _, _ => h.elim
  | j :: q, .app f ts, ⟨h1, t, ht, hp⟩, k, hk => by
    have hl := (List.getElem?_eq_some_iff.mp ht).1
    have := Tm.len_le ts
    have h3 := Tm.sz_arg (List.mem_of_getElem? ht)
    show 1 ≤ k ∧ k ≤ ((1 + Tm.szs ts : Nat) : Int)
    rcases List.mem_cons.mp hk with e | hk
    · subst e; omega
    · have := pos_ints q t hp k hk
      omega
/-! lists without a number twice -/
theorem nd_below : ∀ (B : Nat) (l : List Int), l.Nodup → (∀ x ∈ l, 0 ≤ x ∧ x < (B : Int)) → l.length ≤ B
  | 0, [], _, _ => Nat.le_refl _
  | 0, x :: _, _, h => by have := h x (List.mem_cons_self ..); omega
  | B + 1, l, nd, h => by
    have h1 : ((l.erase (B : Int)).length) ≤ B := nd_below B _ (nd.erase _) fun x hx => by
      have h2 := h x (List.mem_of_mem_erase hx)
      have h3 : x ≠ (B : Int) := fun e => by rw [e] at hx; exact nd.not_mem_erase hx
      omega
    have h2 := List.length_erase (a := (B : Int)) (l := l)
    by_cases z : (B : Int) ∈ l
    · rw [if_pos z] at h2; omega
    · rw [if_neg z] at h2; omega
theorem nd_same {l1 l2 : List Int} (h1 : l1.Nodup) (h2 : l2.Nodup) (h : ∀ x, x ∈ l1 ↔ x ∈ l2) : l1.length = l2.length := ((List.perm_ext_iff_of_nodup h1 h2).mpr h).length_eq
/-! tables -/
theorem look_app : ∀ (a b : List (Int × Tm)) (n : Int), look (a ++ b) n = (look a n).or (look b n)
  | [], _, _ => rfl
  | x :: a, b, n => by
    show (if x.1 = n then some x.2 else look (a ++ b) n) = (if x.1 = n then some x.2 else look a n).or (look b n)
    by_cases e : x.1 = n
    · rw [if_pos e, if_pos e]; rfl
    · rw [if_neg e, if_neg e]; exact look_app a b n
theorem look_some {tb : List (Int × Tm)} {n : Int} : look tb n ≠ none ↔ n ∈ tb.map (·.1) := by
  induction tb with
  | nil => exact ⟨fun h => absurd rfl h, fun h => nomatch h⟩
  | cons x l ih =>
    show (if x.1 = n then some x.2 else look l n) ≠ none ↔ n ∈ x.1 :: l.map (·.1)
    by_cases e : x.1 = n
    · rw [if_pos e]; exact ⟨fun _ => by rw [e]; exact List.mem_cons_self .., fun _ z => nomatch z⟩
    · rw [if_neg e, ih, List.mem_cons]
      exact ⟨.inr, fun z => z.elim (fun z => absurd z.symm e) id⟩
theorem look_ids {l : List Int} {n : Int} (h : n ∈ l) : look (l.map fun n => (n, Tm.var n)) n = some (.var n) := by
  induction l with
  | nil => cases h
  | cons a r ih =>
    show (if a = n then some (Tm.var a) else look (r.map fun n => (n, Tm.var n)) n) = _
    by_cases e : a = n
    · rw [if_pos e, e]
    · rw [if_neg e]; exact ih ((List.mem_cons.mp h).elim (fun z => absurd z.symm e) id)
/-- a step of the document: the equation L = R with the values tb, at q, leads from t to t' -/
structure Stp (fs : List Str) (t t' : Tm) (fwd : Bool) (q : List Int) (tb : List (Int × Tm)) (L R : Tm) : Prop where
  hat : at? q t = some (sub (look tb) (if fwd then L else R))
  res : t' = rep (sub (look tb) (if fwd then R else L)) q t
  len : tb.length = (adds (vars L) (vars R)).length
  has : ∀ n ∈ adds (vars L) (vars R), look tb n ≠ none
  few : tb.length ≤ 10
  nd : (tb.map (·.1)).Nodup
  wl : L.wf fs 10
  wr : R.wf fs 10
  wt : ∀ x ∈ tb, (0 ≤ x.1 ∧ x.1 < 10) ∧ x.2.wf fs 9 ∧ x.2.sz ≤ t.sz + 4 ∧ x.2.dep ≤ t.dep + 2
  zl : L.sz ≤ t.sz + 5 ∧ L.dep ≤ t.dep + 2
  zr : R.sz ≤ t.sz + 5 ∧ R.dep ≤ t.dep + 2
  w' : t'.wf fs 9
  z' : t'.sz ≤ t.sz + 16
  d' : t'.dep ≤ t.dep + 4
  zu : (sub (look tb) (if fwd then R else L)).sz ≤ t.sz + 16
/-- the table of a drawn step: what the law puts into it -/
theorem stp_of {fs : List Str} {t c0 c N N1 : Tm} {q q1 : List Int} {tb : List (Int × Tm)} {l : List (Int × Tm)} (wt : t.wf fs 9) (hq : at? q t = some c0) (hc : at? q1 c0 = some c)
    (htb : tb = (9, c) :: ((vars (rep (.var 9) q1 c0)).filter (· ≠ 9)).map (fun n => (n, Tm.var n)) ++ l) (nd : (tb.map (·.1)).Nodup) (hl : ∀ x ∈ l, x.1 ∈ vars N1 ∧ x.2.wf fs 9 ∧ x.2.sz ≤ 4 ∧ x.2.dep ≤ 2) (hN1 : ∀ n ∈ vars N1, n ∈ tb.map (·.1))
    (wN : N.wf fs 9) (zN : N.sz ≤ 4) (dN : N.dep ≤ 2) (hN : N1 = N ∨ ∃ q2, IsPos q2 N ∧ N1 = rep (.var 9) q2 N) (fwd : Bool) {L R : Tm} (eL : (if fwd then L else R) = rep (.var 9) q1 c0) (eR : (if fwd then R else L) = N1) :
    Stp fs t (rep (sub (look tb) N1) q t) fwd q tb L R := by
  have ip1 : IsPos q1 c0 := (isPos_at q1 c0).mpr ⟨c, hc⟩
  have ip : IsPos q t := (isPos_at q t).mpr ⟨c0, hq⟩
  have zc := at_sz _ _ _ hc
  have z0 := at_sz _ _ _ hq
  have l0 := at_len _ _ _ hq
  have l1 := at_len _ _ _ hc
  have w0 := at_wf _ _ _ hq wt
  have wc := at_wf _ _ _ hc w0
  have cp := c.dep_pos
  have c0p := c0.dep_pos
  have tp := t.dep_pos
  have cz := c.sz_pos
  have one : (Tm.var 9).sz = 1 := rfl
  have one' : (Tm.var 9).dep = 1 := rfl
  have w9 : (Tm.var 9).wf fs 10 := ⟨by decide, by decide⟩
  -- the old side
  have wO : (rep (.var 9) q1 c0).wf fs 10 := rep_wf w9 q1 c0 (w0.mono (by decide)) ip1
  have zO := rep_sz (.var 9) q1 c0 c hc
  have dO := (rep_dep (.var 9) q1 c0 ip1).1
  have o9 : (9 : Int) ∉ occ c0 := fun z => by have := (occ_wf c0 w0 9 z).2; omega
  have in9 : (9 : Int) ∈ occ (rep (.var 9) q1 c0) := occ_rep_in (.var 9) q1 c0 ip1 9 (List.mem_singleton.mpr rfl)
  have lk9 : look tb 9 = some c := by rw [htb]; rfl
  have lkO : ∀ n ∈ occ (rep (.var 9) q1 c0), n ≠ 9 → look tb n = some (.var n) := fun n hn ne => by
    rw [htb, look_app]
    have e : look ((9, c) :: ((vars (rep (.var 9) q1 c0)).filter (· ≠ 9)).map (fun n => (n, Tm.var n))) n = some (.var n) := by
      show (if (9 : Int) = n then some c else look (((vars (rep (.var 9) q1 c0)).filter (· ≠ 9)).map (fun n => (n, Tm.var n))) n) = _
      rw [if_neg (fun z => ne z.symm)]
      exact look_ids (List.mem_filter.mpr ⟨(vars_mem _ _).mpr hn, by simpa using ne⟩)
    rw [e]; rfl
  have sO : sub (look tb) (rep (.var 9) q1 c0) = c0 := sub_rep (look tb) (by rw [lk9]; rfl) q1 c0 hc o9 fun n hn ne => by rw [lkO n hn ne]; rfl
  -- the values
  have vals : ∀ x ∈ tb, (x.1 = 9 ∧ x.2 = c) ∨ (x.1 ≠ 9 ∧ x.1 ∈ vars (rep (.var 9) q1 c0) ∧ x.2 = .var x.1) ∨ x ∈ l := fun x hx => by
    rw [htb] at hx
    rcases List.mem_append.mp hx with h | h
    · rcases List.mem_cons.mp h with h | h
      · rw [h]; exact .inl ⟨rfl, rfl⟩
      · obtain ⟨n, hn, rfl⟩ := List.mem_map.mp h
        obtain ⟨h1, h2⟩ := List.mem_filter.mp hn
        exact .inr (.inl ⟨by simpa using h2, h1, rfl⟩)
    · exact .inr (.inr h)
  have wO9 : ∀ n ∈ occ (rep (.var 9) q1 c0), n ≠ 9 → 0 ≤ n ∧ n < 9 := fun n hn ne => by
    rcases occ_rep (.var 9) q1 c0 ip1 n hn with z | z
    · exact occ_wf c0 w0 n z
    · exact absurd (List.mem_singleton.mp z) ne
  have wN1 : N1.wf fs 10 := by
    rcases hN with e | ⟨q2, ip2, e⟩
    · rw [e]; exact wN.mono (by decide)
    · rw [e]; exact rep_wf w9 q2 N (wN.mono (by decide)) ip2
  have wvals : ∀ x ∈ tb, (0 ≤ x.1 ∧ x.1 < 10) ∧ x.2.wf fs 9 ∧ x.2.sz ≤ t.sz + 4 ∧ x.2.dep ≤ t.dep + 2 := fun x hx => by
    rcases vals x hx with ⟨h1, h2⟩ | ⟨h1, h2, h3⟩ | h
    · rw [h1, h2]; exact ⟨by decide, wc, by omega, by omega⟩
    · have := wO9 x.1 ((vars_mem _ _).mp h2) h1
      have e1 : x.2.sz = 1 := by rw [h3]; rfl
      have e2 : x.2.dep = 1 := by rw [h3]; rfl
      have e3 : x.2.wf fs 9 := by rw [h3]; exact this
      exact ⟨by omega, e3, by omega, by omega⟩
    · obtain ⟨h1, h2, h3, h4⟩ := hl x h
      have := occ_wf N1 wN1 x.1 ((vars_mem _ _).mp h1)
      exact ⟨this, h2, by omega, by omega⟩
  have low : ∀ n, n ≠ 9 → ((look tb n).getD (.var n)).sz ≤ 4 ∧ ((look tb n).getD (.var n)).dep ≤ 1 + 1 := fun n ne => by
    cases e : look tb n with
    | none => exact ⟨by show 1 ≤ 4; decide, by show 1 ≤ 2; decide⟩
    | some u =>
      have h := vals _ (look_mem e)
      rcases h with ⟨h1, _⟩ | ⟨_, _, h3⟩ | h
      · exact absurd h1 ne
      · have h3 : u = .var n := h3
        rw [h3]; exact ⟨by show 1 ≤ 4; decide, by show 1 ≤ 2; decide⟩
      · exact ⟨(hl _ h).2.2.1, (hl _ h).2.2.2⟩
  have nN : ∀ n ∈ occ N, n ≠ 9 := fun n hn z => by have := (occ_wf N wN n hn).2; omega
  have sN := sub_szM (look tb) 4 1 (by decide) N fun n hn => low n (nN n hn)
  have wfv : ∀ n, n ∈ tb.map (·.1) → ((look tb n).getD (.var n)).wf fs 9 := fun n hn => by
    cases e : look tb n with
    | none => exact absurd e (look_some.mpr hn)
    | some u => exact (wvals _ (look_mem e)).2.1
  have wU : (sub (look tb) N1).wf fs 9 := sub_wf (look tb) N1 wN1 fun n hn => wfv n (hN1 n ((vars_mem _ _).mpr hn))
  have zU : (sub (look tb) N1).sz ≤ c.sz + 16 ∧ (sub (look tb) N1).dep ≤ max 3 (1 + c.dep) := by
    rcases hN with e | ⟨q2, ip2, e⟩
    · rw [e]; omega
    · obtain ⟨u2, hu2⟩ := (isPos_at q2 N).mp ip2
      have l2 := at_len _ _ _ hu2
      have p2 := u2.dep_pos
      have e1 : sub (look tb) (.var 9) = c := by show (look tb 9).getD (.var 9) = c; rw [lk9]; rfl
      rw [e, sub_rep_out (look tb) (.var 9) q2 N ip2, e1]
      have := rep_dep c q2 (sub (look tb) N) (isPos_sub (look tb) q2 N ip2)
      omega
  have zN1 : N1.sz ≤ 5 ∧ N1.dep ≤ 2 := by
    rcases hN with e | ⟨q2, ip2, e⟩
    · rw [e]; omega
    · obtain ⟨u2, hu2⟩ := (isPos_at q2 N).mp ip2
      have l2 := at_len _ _ _ hu2
      have p2 := u2.dep_pos
      have := rep_dep (.var 9) q2 N ip2
      rw [e]; omega
  have rz := rep_sz (sub (look tb) N1) q t c0 hq
  have rd := (rep_dep (sub (look tb) N1) q t ip).1
  have keys : ∀ n, n ∈ tb.map (·.1) ↔ n ∈ occ (rep (.var 9) q1 c0) ∨ n ∈ occ N1 := fun n => by
    constructor
    · intro h
      obtain ⟨x, hx, rfl⟩ := List.mem_map.mp h
      rcases vals x hx with ⟨h1, _⟩ | ⟨_, h2, _⟩ | h
      · rw [h1]; exact .inl in9
      · exact .inl ((vars_mem _ _).mp h2)
      · exact .inr ((vars_mem _ _).mp (hl x h).1)
    · rintro (h | h)
      · by_cases ne : n = 9
        · rw [ne]; exact look_some.mp (by rw [lk9]; exact fun z => nomatch z)
        · exact look_some.mp (by rw [lkO n h ne]; exact fun z => nomatch z)
      · exact hN1 n ((vars_mem _ _).mpr h)
  have memLR : ∀ n, n ∈ adds (vars L) (vars R) ↔ n ∈ tb.map (·.1) := fun n => by
    rw [adds_mem, vars_mem, vars_mem, keys]
    cases fwd
    · rw [← show R = rep (.var 9) q1 c0 from eL, ← show L = N1 from eR]; exact Or.comm
    · rw [← show L = rep (.var 9) q1 c0 from eL, ← show R = N1 from eR]
  have ln : tb.length = (adds (vars L) (vars R)).length := by
    rw [← List.length_map (f := fun x : Int × Tm => x.1)]
    exact nd_same nd (adds_nodup _ _ (adds_nodup _ _ List.nodup_nil)) fun n => (memLR n).symm
  have fw : tb.length ≤ 10 := by
    rw [← List.length_map (f := fun x : Int × Tm => x.1)]
    refine nd_below 10 _ nd fun n hn => ?_
    obtain ⟨x, hx, rfl⟩ := List.mem_map.mp hn
    exact (wvals x hx).1
  have two : (L.wf fs 10 ∧ L.sz ≤ t.sz + 5 ∧ L.dep ≤ t.dep + 2) ∧ (R.wf fs 10 ∧ R.sz ≤ t.sz + 5 ∧ R.dep ≤ t.dep + 2) := by
    have hO : (rep (.var 9) q1 c0).wf fs 10 ∧ (rep (.var 9) q1 c0).sz ≤ t.sz + 5 ∧ (rep (.var 9) q1 c0).dep ≤ t.dep + 2 := ⟨wO, by omega, by omega⟩
    have hN : N1.wf fs 10 ∧ N1.sz ≤ t.sz + 5 ∧ N1.dep ≤ t.dep + 2 := ⟨wN1, by omega, by omega⟩
    cases fwd
    · rw [show R = rep (.var 9) q1 c0 from eL, show L = N1 from eR]; exact ⟨hN, hO⟩
    · rw [show L = rep (.var 9) q1 c0 from eL, show R = N1 from eR]; exact ⟨hO, hN⟩
  refine { hat := by rw [eL, sO]; exact hq, res := by rw [eR], len := ln, has := fun n hn => look_some.mpr ((memLR n).mp hn), few := fw, nd := nd, wl := two.1.1, wr := two.2.1, wt := wvals, zl := two.1.2, zr := two.2.2, w' := rep_wf wU q t wt ip, z' := by omega, d' := by omega, zu := by rw [eR]; omega }
end J

/-! ### < and > of data; equality of terms; the order of terms -/
namespace J
open PySem PySem.Spec PyProof.Rows L2
section
variable {X : Cx}
def rCmpD (K : PySem.W.Frag) (g : PyData → PyData → Bool) : R2 := fun x y H Q => ∃ d e, Dp K H x d ∧ Dp K H y e ∧ PySem.W.alike d e = true ∧ d ≠ .none ∧ d.depth ≤ 60 ∧ Q (.bl (g d e)) H
theorem op_ltD (hu : X.A.units + 64 < cLine) : OpR X (compareOp .Lt) (rCmpD X.K fun d e => PySem.W.dataLt d e) := by
  intro pins s σ H x y v u Q I rx ry h
  obtain ⟨d, e, hd, he, al, nn, dp, q⟩ := h
  obtain ⟨as, r1⟩ := Dp.reads I d x v hd rx
  obtain ⟨bs, r2⟩ := Dp.reads I e y u he ry
  exact PySem.W.lt_data r1 r2 al nn (by have := Nat.min_le_left d.depth e.depth; omega) ⟨.bl _, H, I, rfl, q⟩
theorem op_gtD (hu : X.A.units + 64 < cLine) : OpR X (compareOp .Gt) (rCmpD X.K fun d e => PySem.W.dataLt e d) := by
  intro pins s σ H x y v u Q I rx ry h
  obtain ⟨d, e, hd, he, al, nn, dp, q⟩ := h
  obtain ⟨as, r1⟩ := Dp.reads I d x v hd rx
  obtain ⟨bs, r2⟩ := Dp.reads I e y u he ry
  exact PySem.W.gt_data r1 r2 al nn (by have := Nat.min_le_left d.depth e.depth; omega) ⟨.bl _, H, I, rfl, q⟩
end
/-! terms as data -/
mutual
theorem tmD_eqv : ∀ a b : Tm, PyData.eqv (tmD a) (tmD b) = true ↔ a = b
  | .var i, .var j => by
    show (i == j) = true ↔ _
    rw [beq_iff_eq]
    exact ⟨fun e => by rw [e], fun e => by injection e⟩
  | .var _, .app _ _ => ⟨fun h => (nomatch (show false = true from h)), fun h => nomatch h⟩
  | .app _ _, .var _ => ⟨fun h => (nomatch (show false = true from h)), fun h => nomatch h⟩
  | .app f ts, .app g us => by
    show ((f == g) && PyData.eqvAll (tmDs ts) (tmDs us)) = true ↔ _
    rw [Bool.and_eq_true, beq_iff_eq, tmDs_eqv ts us]
    exact ⟨fun ⟨a, b⟩ => by rw [a, b], fun e => by injection e with a b; exact ⟨a, b⟩⟩
theorem tmDs_eqv : ∀ a b : List Tm, PyData.eqvAll (tmDs a) (tmDs b) = true ↔ a = b
  | [], [] => ⟨fun _ => rfl, fun _ => rfl⟩
  | [], _ :: _ => ⟨fun h => (nomatch (show false = true from h)), fun h => nomatch h⟩
  | _ :: _, [] => ⟨fun h => (nomatch (show false = true from h)), fun h => nomatch h⟩
  | t :: ts, u :: us => by
    show (PyData.eqv (tmD t) (tmD u) && PyData.eqvAll (tmDs ts) (tmDs us)) = true ↔ _
    rw [Bool.and_eq_true, tmD_eqv t u, tmDs_eqv ts us]
    exact ⟨fun ⟨a, b⟩ => by rw [a, b], fun e => by injection e with a b; exact ⟨a, b⟩⟩
end
mutual
theorem tmD_dp {K : PySem.W.Frag} {H : Hp} : ∀ (t : Tm) (v : V), TmIn H t v → Dp K H v (tmD t)
  | .var n, v, h => by cases (show v = .int n from h); exact .int n
  | .app f ts, v, h => by
    obtain ⟨a, vs, rfl, ha, hts⟩ := h
    exact .tup (SqT.of ha) (.cons (.str f) (tmDs_dp ts vs hts))
theorem tmDs_dp {K : PySem.W.Frag} {H : Hp} : ∀ (ts : List Tm) (vs : List V), TmsIn H ts vs → DpAll K H vs (tmDs ts)
  | [], vs, h => by cases (show vs = [] from h); exact .nil
  | t :: ts, vs, h => by
    obtain ⟨v, w, rfl, h1, h2⟩ := h
    exact .cons (tmD_dp t v h1) (tmDs_dp ts w h2)
end
theorem low_ok {x : Str} (h : Low x) : PyData.strOk x = true := by
  unfold PyData.strOk
  rw [← Array.all_toList, List.all_eq_true]
  intro c hc
  have := h c hc
  exact decide_eq_true (by omega)
mutual
theorem tmD_lay {fs : List Str} (hn : Names fs) {B : Int} : ∀ t : Tm, t.wf fs B → (tmD t).canLay0 = true ∧ (tmD t).depth ≤ t.dep
  | .var n, _ => ⟨rfl, Nat.zero_le _⟩
  | .app f ts, w => by
    obtain ⟨⟨k, hk, _⟩, w⟩ := (show (∃ k, fs[k]? = some f ∧ ts.length = ar k) ∧ Tm.wfs fs B ts from w)
    have := tmDs_lay hn ts w
    refine ⟨?_, ?_⟩
    · show (PyData.strOk f && PyData.canLayAll0 (tmDs ts)) = true
      rw [this.1, low_ok (hn.low f (List.mem_of_getElem? hk))]; rfl
    · show max (PyData.str f).depth (PyData.depthAll (tmDs ts)) + 1 ≤ 1 + Tm.deps ts
      have : (PyData.str f).depth = 0 := rfl
      omega
theorem tmDs_lay {fs : List Str} (hn : Names fs) {B : Int} : ∀ ts : List Tm, Tm.wfs fs B ts → PyData.canLayAll0 (tmDs ts) = true ∧ PyData.depthAll (tmDs ts) ≤ Tm.deps ts
  | [], _ => ⟨rfl, Nat.le_refl _⟩
  | t :: ts, w => by
    have a := tmD_lay hn t w.1
    have b := tmDs_lay hn ts w.2
    refine ⟨?_, ?_⟩
    · show ((tmD t).canLay0 && PyData.canLayAll0 (tmDs ts)) = true
      rw [a.1, b.1]; rfl
    · show max (tmD t).depth (PyData.depthAll (tmDs ts)) ≤ max t.dep (Tm.deps ts)
      omega
end
theorem tmD_shaped {fs : List Str} (hn : Names fs) {B : Int} {t : Tm} (w : t.wf fs B) (h : t.dep ≤ 60) : SeqAt.shaped (tmD t) = true := by
  have := tmD_lay hn t w
  unfold SeqAt.shaped
  rw [this.1, Bool.true_and]
  exact decide_eq_true (by omega)
/-! symbols in rows -/
def rowD : V → PyData
  | .int n => .tuple [.int 0, .int n, .str ""]
  | .str f => .tuple [.int 1, .int 0, .str f]
  | _ => .tuple [.int 1, .int 0, .str ""]
theorem rowD_alike (x y : V) : PySem.W.alike (rowD x) (rowD y) = true := by cases x <;> cases y <;> rfl
theorem rows_alike : ∀ xs ys : List V, PySem.W.alikeAll (xs.map rowD) (ys.map rowD) = true
  | [], _ => rfl
  | _ :: _, [] => rfl
  | x :: xs, y :: ys => by
    show (PySem.W.alike (rowD x) (rowD y) && PySem.W.alikeAll (xs.map rowD) (ys.map rowD)) = true
    rw [rowD_alike, rows_alike xs ys]; rfl
def keyL (t : Tm) : List PyData := [.int ((syms t).length : Int), .list ((syms t).map rowD)]
theorem keyL_alike (t r : Tm) : PySem.W.alikeAll (keyL t) (keyL r) = true := by
  show (true && (PySem.W.alikeAll ((syms t).map rowD) ((syms r).map rowD) && true)) = true
  rw [rows_alike]; rfl
theorem row_inj : ∀ xs ys : List V, (∀ y ∈ xs, (∃ n, y = .int n) ∨ ∃ f, y = .str f) → (∀ y ∈ ys, (∃ n, y = .int n) ∨ ∃ f, y = .str f) → PySem.W.keyToksAll (xs.map rowD) = PySem.W.keyToksAll (ys.map rowD) → xs = ys
  | [], [], _, _, _ => rfl
  | [], _ :: _, _, _, h => by cases (show Sum.inl (0 : Int) = Sum.inl 1 from (List.cons.inj h).1)
  | _ :: _, [], _, _, h => by cases (show Sum.inl (1 : Int) = Sum.inl 0 from (List.cons.inj h).1)
  | x :: xs, y :: ys, hx, hy, h => by
    have h : Sum.inl 1 :: (PySem.W.keyToks (rowD x) ++ PySem.W.keyToksAll (xs.map rowD)) = Sum.inl 1 :: (PySem.W.keyToks (rowD y) ++ PySem.W.keyToksAll (ys.map rowD)) := h
    have h := (List.cons.inj h).2
    have ih := row_inj xs ys (fun z hz => hx z (List.mem_cons_of_mem _ hz)) (fun z hz => hy z (List.mem_cons_of_mem _ hz))
    rcases hx x (List.mem_cons_self ..) with ⟨n, rfl⟩ | ⟨f, rfl⟩
    · rcases hy y (List.mem_cons_self ..) with ⟨m, rfl⟩ | ⟨g, rfl⟩
      · have h : ([.inl 1, .inl 0, .inl 1, .inl n, .inl 1, .inr [], .inl 0] : List (Int ⊕ List Nat)) ++ PySem.W.keyToksAll (xs.map rowD) = [.inl 1, .inl 0, .inl 1, .inl m, .inl 1, .inr [], .inl 0] ++ PySem.W.keyToksAll (ys.map rowD) := h
        simp only [List.cons_append, List.nil_append, List.cons.injEq, Sum.inl.injEq, true_and] at h
        rw [h.1, ih h.2]
      · have h : ([.inl 1, .inl 0, .inl 1, .inl n, .inl 1, .inr [], .inl 0] : List (Int ⊕ List Nat)) ++ PySem.W.keyToksAll (xs.map rowD) = [.inl 1, .inl 1, .inl 1, .inl 0, .inl 1, .inr g.cps.toList, .inl 0] ++ PySem.W.keyToksAll (ys.map rowD) := h
        simp at h
    · rcases hy y (List.mem_cons_self ..) with ⟨m, rfl⟩ | ⟨g, rfl⟩
      · have h : ([.inl 1, .inl 1, .inl 1, .inl 0, .inl 1, .inr f.cps.toList, .inl 0] : List (Int ⊕ List Nat)) ++ PySem.W.keyToksAll (xs.map rowD) = [.inl 1, .inl 0, .inl 1, .inl m, .inl 1, .inr [], .inl 0] ++ PySem.W.keyToksAll (ys.map rowD) := h
        simp at h
      · have h : ([.inl 1, .inl 1, .inl 1, .inl 0, .inl 1, .inr f.cps.toList, .inl 0] : List (Int ⊕ List Nat)) ++ PySem.W.keyToksAll (xs.map rowD) = [.inl 1, .inl 1, .inl 1, .inl 0, .inl 1, .inr g.cps.toList, .inl 0] ++ PySem.W.keyToksAll (ys.map rowD) := h
        simp only [List.cons_append, List.nil_append, List.cons.injEq, Sum.inr.injEq, true_and] at h
        rw [PySem.W.str_of_cps h.1, ih h.2]
theorem nd_get {l : List Str} (nd : l.Nodup) {i j : Nat} {x : Str} (hi : l[i]? = some x) (hj : l[j]? = some x) : i = j := by
  obtain ⟨h1, e1⟩ := List.getElem?_eq_some_iff.mp hi
  obtain ⟨h2, e2⟩ := List.getElem?_eq_some_iff.mp hj
  exact (List.getElem_inj nd).mp (e1.trans e2.symm)
mutual
/-- a term's symbols tell the term -/
theorem syms_inj {fs : List Str} (nd : fs.Nodup) {B C : Int} : ∀ (t r : Tm) (a b : List V), t.wf fs B → r.wf fs C → syms t ++ a = syms r ++ b → t = r ∧ a = b
  | .var n, .var m, a, b, _, _, h => by
    have h : V.int n :: a = V.int m :: b := h
    obtain ⟨h1, h2⟩ := List.cons.inj h
    injection h1 with h1
    exact ⟨by rw [h1], h2⟩
  | .var n, .app g us, a, b, _, _, h => by
    have h : V.int n :: a = V.str g :: (symss us ++ b) := h
    cases (List.cons.inj h).1
  | .app f ts, .var m, a, b, _, _, h => by
    have h : V.str f :: (symss ts ++ a) = V.int m :: b := h
    cases (List.cons.inj h).1
  | .app f ts, .app g us, a, b, w1, w2, h => by
    have h : V.str f :: (symss ts ++ a) = V.str g :: (symss us ++ b) := h
    obtain ⟨h1, h2⟩ := List.cons.inj h
    injection h1 with h1
    subst h1
    obtain ⟨⟨i, i1, i2⟩, w1⟩ := (show (∃ k, fs[k]? = some f ∧ ts.length = ar k) ∧ Tm.wfs fs B ts from w1)
    obtain ⟨⟨j, j1, j2⟩, w2⟩ := (show (∃ k, fs[k]? = some f ∧ us.length = ar k) ∧ Tm.wfs fs C us from w2)
    cases nd_get nd i1 j1
    obtain ⟨e1, e2⟩ := symss_inj nd ts us a b w1 w2 (i2.trans j2.symm) h2
    exact ⟨by rw [e1], e2⟩
theorem symss_inj {fs : List Str} (nd : fs.Nodup) {B C : Int} : ∀ (ts us : List Tm) (a b : List V), Tm.wfs fs B ts → Tm.wfs fs C us → ts.length = us.length → symss ts ++ a = symss us ++ b → ts = us ∧ a = b
  | [], [], a, b, _, _, _, h => ⟨rfl, h⟩
  | [], _ :: _, _, _, _, _, l, _ => nomatch l
  | _ :: _, [], _, _, _, _, l, _ => nomatch l
  | t :: ts, u :: us, a, b, w1, w2, l, h => by
    have h : syms t ++ symss ts ++ a = syms u ++ symss us ++ b := h
    rw [List.append_assoc, List.append_assoc] at h
    obtain ⟨e1, h⟩ := syms_inj nd t u _ _ w1.1 w2.1 h
    obtain ⟨e2, e3⟩ := symss_inj nd ts us a b w1.2 w2.2 (Nat.succ.inj l) h
    exact ⟨by rw [e1, e2], e3⟩
end
theorem key_inj {fs : List Str} (nd : fs.Nodup) {B C : Int} {t r : Tm} (w1 : t.wf fs B) (w2 : r.wf fs C) (h : PySem.W.keyToksAll (keyL t) = PySem.W.keyToksAll (keyL r)) : t = r := by
  have h : Sum.inl 1 :: ([Sum.inl ((syms t).length : Int)] ++ (Sum.inl 1 :: (PySem.W.keyToksAll ((syms t).map rowD) ++ [Sum.inl 0]))) = Sum.inl 1 :: ([Sum.inl ((syms r).length : Int)] ++ (Sum.inl 1 :: (PySem.W.keyToksAll ((syms r).map rowD) ++ [Sum.inl 0]))) := h
  simp only [List.cons_append, List.nil_append, List.cons.injEq, true_and] at h
  have h2 := row_inj _ _ (fun y hy => syms_kind t y hy) (fun y hy => syms_kind r y hy) (List.append_cancel_right h.2)
  exact (syms_inj nd t r [] [] w1 w2 (by rw [List.append_nil, List.append_nil]; exact h2)).1
/-- the order's three cases -/
def klt (t r : Tm) : Bool := lexLt itemOrd (PySem.W.keyToksAll (keyL t)) (PySem.W.keyToksAll (keyL r))
def kcmp (t r : Tm) : Int := if klt t r = true then -1 else if klt r t = true then 1 else 0
theorem rows_dep : ∀ l : List V, PyData.depthAll (l.map rowD) ≤ 1
  | [] => Nat.zero_le _
  | y :: l => by
    have ih := rows_dep l
    have hy : (rowD y).depth ≤ 1 := by cases y <;> exact Nat.le_refl _
    show max (rowD y).depth (PyData.depthAll (l.map rowD)) ≤ 1
    omega
theorem keyL_dep (t : Tm) : PyData.depthAll (keyL t) ≤ 2 := by
  have := rows_dep (syms t)
  show max 0 (max (PyData.depthAll ((syms t).map rowD) + 1) 0) ≤ 2
  omega
theorem klt_self (t : Tm) : klt t t = false := lex_irrefl _
theorem klt_tri {fs : List Str} (nd : fs.Nodup) {B C : Int} {t r : Tm} (w1 : t.wf fs B) (w2 : r.wf fs C) (h1 : klt t r = false) (h2 : klt r t = false) : t = r := key_inj nd w1 w2 (lex_total _ _ h1 h2)
theorem klt_asym {t r : Tm} (h : klt t r = true) : klt r t = false := by
  cases e : klt r t with
  | false => rfl
  | true =>
    have := lex_trans _ _ _ h e
    have h2 := klt_self t
    rw [show klt t t = true from this] at h2
    cases h2
/-! lists of tuples -/
def LtIn (H : Hp) (p : Addr) (rows : List (List V)) : Prop := ∃ as : List Addr, H p = some (.lst (as.map V.ref)) ∧ as.length = rows.length ∧ ∀ (k : Nat) (a : Addr) (q : List V), as[k]? = some a → rows[k]? = some q → H a = some (.tup q)
theorem LtIn.same {H H' : Hp} {p : Addr} {rows : List (List V)} (h : LtIn H p rows) (s : Same H H') : LtIn H' p rows := by
  obtain ⟨as, h1, h2, h3⟩ := h
  exact ⟨as, s _ _ h1, h2, fun k a q ea eq => s _ _ (h3 k a q ea eq)⟩
theorem LtIn.push {H H' : Hp} {p a : Addr} {rows : List (List V)} {q : List V} {as : List Addr} (h2 : as.length = rows.length) (h3 : ∀ (k : Nat) (a : Addr) (q : List V), as[k]? = some a → rows[k]? = some q → H a = some (.tup q))
    (t : Tu H H') (e : H' p = some (.lst (as.map V.ref ++ [.ref a]))) (ha : H' a = some (.tup q)) : LtIn H' p (rows ++ [q]) := by
  refine ⟨as ++ [a], by rw [e, List.map_append]; rfl, by rw [List.length_append, List.length_append, h2]; rfl, fun k b r eb er => ?_⟩
  by_cases hk : k < as.length
  · rw [List.getElem?_append_left hk] at eb
    rw [List.getElem?_append_left (by omega)] at er
    exact t _ _ (h3 k b r eb er)
  · have h4 := (List.getElem?_eq_some_iff.mp eb).1
    rw [List.length_append, List.length_singleton] at h4
    have ek : k = as.length := by omega
    subst ek
    rw [List.getElem?_append_right (Nat.le_refl _), Nat.sub_self] at eb
    rw [List.getElem?_append_right (by omega), h2, Nat.sub_self] at er
    cases eb; cases er
    exact ha
/-- one list behind another -/
theorem LtIn.app {H H' : Hp} {p b r : Addr} {xs ys : List (List V)} {as bs : List Addr} (h2 : as.length = xs.length) (h3 : ∀ (k : Nat) (a : Addr) (q : List V), as[k]? = some a → xs[k]? = some q → H a = some (.tup q))
    (g2 : bs.length = ys.length) (g3 : ∀ (k : Nat) (a : Addr) (q : List V), bs[k]? = some a → ys[k]? = some q → H a = some (.tup q)) (t : Tu H H') (e : H' r = some (.lst (as.map V.ref ++ bs.map V.ref))) : LtIn H' r (xs ++ ys) := by
  refine ⟨as ++ bs, by rw [e, List.map_append], by rw [List.length_append, List.length_append, h2, g2], fun k c q ec eq => ?_⟩
  by_cases hk : k < as.length
  · rw [List.getElem?_append_left hk] at ec
    rw [List.getElem?_append_left (by omega)] at eq
    exact t _ _ (h3 k c q ec eq)
  · rw [List.getElem?_append_right (by omega)] at ec
    rw [List.getElem?_append_right (by omega), ← h2] at eq
    exact t _ _ (g3 _ c q ec eq)
def rowV : V → List V
  | .int n => [.int 0, .int n, .str ""]
  | .str f => [.int 1, .int 0, .str f]
  | _ => [.int 1, .int 0, .str ""]
theorem row_dp {K : PySem.W.Frag} {H : Hp} {a : Addr} {y : V} (h : H a = some (.tup (rowV y))) : Dp K H (.ref a) (rowD y) := by
  cases y with
  | int n => exact .tup (SqT.of h) (.cons (.int 0) (.cons (.int n) (.cons (.str _) .nil)))
  | str f => exact .tup (SqT.of h) (.cons (.int 1) (.cons (.int 0) (.cons (.str f) .nil)))
  | _ => exact .tup (SqT.of h) (.cons (.int 1) (.cons (.int 0) (.cons (.str _) .nil)))
theorem LtIn.dp {K : PySem.W.Frag} {H : Hp} {p : Addr} {l : List V} (h : LtIn H p (l.map rowV)) : Dp K H (.ref p) (.list (l.map rowD)) := by
  obtain ⟨as, h1, h2, h3⟩ := h
  rw [List.length_map] at h2
  refine .lst (SqL.of h1) (dp_all (by rw [List.length_map, List.length_map, h2]) fun k v d e1 e2 => ?_)
  rw [List.getElem?_map] at e1 e2
  cases ea : as[k]? with
  | none => rw [ea] at e1; cases e1
  | some a =>
    cases ey : l[k]? with
    | none => rw [ey] at e2; cases e2
    | some y =>
      rw [ea] at e1; rw [ey] at e2
      cases e1; cases e2
      exact row_dp (h3 k a _ ea (by rw [List.getElem?_map, ey]; rfl))
theorem rows_lay {fs : List Str} (hn : Names fs) : ∀ l : List V, (∀ y ∈ l, (∃ n, y = .int n) ∨ ∃ f, f ∈ fs ∧ y = .str f) → PyData.canLayAll0 (l.map rowD) = true ∧ PyData.depthAll (l.map rowD) ≤ 1
  | [], _ => ⟨rfl, Nat.zero_le _⟩
  | y :: l, h => by
    have ih := rows_lay hn l fun z hz => h z (List.mem_cons_of_mem _ hz)
    have hy : (rowD y).canLay0 = true ∧ (rowD y).depth ≤ 1 := by
      rcases h y (List.mem_cons_self ..) with ⟨n, rfl⟩ | ⟨f, hf, rfl⟩
      · exact ⟨by show (true && (true && (PyData.strOk "" && true))) = true; decide +kernel, Nat.le_refl _⟩
      · refine ⟨?_, Nat.le_refl _⟩
        show (true && (true && (PyData.strOk f && true))) = true
        rw [low_ok (hn.low f hf)]; rfl
    refine ⟨?_, ?_⟩
    · show ((rowD y).canLay0 && PyData.canLayAll0 (l.map rowD)) = true
      rw [hy.1, ih.1]; rfl
    · show max (rowD y).depth (PyData.depthAll (l.map rowD)) ≤ 1
      omega
end J

/-! ### list(zip(a, b)) over two lists or two tuples -/
namespace J
open PySem PySem.Calls PySem.Spec PyProof.Rows PyProof.V L2 PySem.W
section
variable {prog : Program} {w : World} {A : Around} {E : Value → Shared → Prop} {s : Shared}
theorem zipT_next_item_held {z TI TO T i1 i2 l1 l2 : Addr} {f : Bool} {oT : Obj} {k1 k2 : Nat} {xs ys : Array Value} {x y : Value} {Q : Value → Shared → Prop} (D : ZipApart z TI TO i1 i2 l1 l2)
    (hz : IsZipHeld s.heap z TI TO T f) (hT : s.heap.get? T = some oT) (hTI : IsPair s.heap TI (.ref i1) (.ref i2))
    (h1 : s.heap.IsTupleIter i1 l1 k1) (h2 : s.heap.IsTupleIter i2 l2 k2) (hl1 : s.heap.IsTuple l1 xs) (hl2 : s.heap.IsTuple l2 ys) (hx : xs[k1]? = some x) (hy : ys[k2]? = some y)
    (hQ : ∀ h', IsZipHeld h' z TI TO T true → h'.IsTupleIter i1 l1 (k1 + 1) → h'.IsTupleIter i2 l2 (k2 + 1) → IsPair h' s.heap.objs.size x y → h'.objs.size = s.heap.objs.size + 1 →
      (∀ c o, c ≠ z → c ≠ i1 → c ≠ i2 → s.heap.get? c = some o → h'.get? c = some o) → Q (.ref s.heap.objs.size) { s with heap := h' }) :
    wpAny (model prog w) A (Builtin.«zip.__next__» ⟨[.ref z], []⟩) (fun fin s' => ∃ v, fin = .done (.ret v) ∧ Q v s') E s := by
  show wpAny _ _ (field (.ref z) 2 >>= _) _ _ _
  refine wpAny_bind (wpAny_field hz rfl (x := .bool false) rfl ?_)
  show wpAny _ _ (field (.ref z) 3 >>= _) _ _ _
  refine wpAny_bind (wpAny_field hz rfl (x := .ref TI) rfl ?_)
  refine wpAny_bind (wpAny_seqItems hTI rfl ?_)
  show wpAny _ _ (Builtin.SmallTypes.ownedTupleIsFree (.ref z) >>= _) _ _ _
  refine wpAny_bind (wpAny_tupleHeld_zip hz hT fun h₁ hz₁ hs₁ => ?_)
  simp only [Bool.false_eq_true, if_false]
  refine wpAny_bind ?_
  rw [← Array.forIn_toList]
  simp only [List.forIn_cons, List.forIn_nil]
  refine wpAny_bind (wpAny_bind (wpAny_holding ?_))
  show wpAny _ _ (Builtin.SmallTypes.nextOf (.ref i1) >>= _) _ _ _
  refine wpAny_bind (RZ.nextOf_tuple_item (s := { s with heap := h₁ }) (h1.extBut hs₁.extBut D.i1z) (hl1.extBut hs₁.extBut D.l1z) hx fun h₂ h1₂ hs₂ => wpAny_pure ?_)
  refine wpAny_pure ?_
  refine wpAny_bind (wpAny_bind (wpAny_holding ?_))
  show wpAny _ _ (Builtin.SmallTypes.nextOf (.ref i2) >>= _) _ _ _
  refine wpAny_bind (RZ.nextOf_tuple_item (s := { s with heap := h₂ }) ((h2.extBut hs₁.extBut D.i2z).extBut hs₂.extBut D.i12.symm) ((hl2.extBut hs₁.extBut D.l2z).extBut hs₂.extBut D.l2i1) hy fun h₃ h2₃ hs₃ => wpAny_pure ?_)
  refine wpAny_pure (wpAny_pure ?_)
  show wpAny _ _ (newTuple [x, y] >>= _) _ _ _
  refine wpAny_bind (wpAny_newTuple ?_)
  have hsz : h₃.objs.size = s.heap.objs.size := by rw [hs₃.1, hs₂.1, hs₁.1]
  have hz₃ : IsZipHeld h₃ z TI TO T true := hs₃.extBut _ _ D.i2z.symm (hs₂.extBut _ _ D.i1z.symm hz₁)
  have hk : ∀ c o, c ≠ z → c ≠ i1 → c ≠ i2 → s.heap.get? c = some o → h₃.get? c = some o := fun c o c1 c2 c3 e => hs₃.extBut _ _ c3 (hs₂.extBut _ _ c2 (hs₁.extBut _ _ c1 e))
  have h1₃ : h₃.IsTupleIter i1 l1 (k1 + 1) := h1₂.extBut hs₃.extBut D.i12
  refine wpAny_pure ⟨_, rfl, ?_⟩
  show Q (.ref h₃.objs.size) _
  have hp : IsPair (h₃.push { cls := .type "tuple", data := .seq #[x, y] }) h₃.objs.size x y := Heap.get?_push_size _ rfl
  have hz4 : (h₃.push { cls := .type "tuple", data := .seq #[x, y] }).objs.size = h₃.objs.size + 1 := Heap.size_push ..
  rw [hsz] at hp hz4 ⊢
  exact hQ _ (Heap.get?_push_of_some _ hz₃) (h1₃.at fun o e => Heap.get?_push_of_some _ e) (h2₃.at fun o e => Heap.get?_push_of_some _ e) hp hz4 fun c o c1 c2 c3 e => Heap.get?_push_of_some _ (hk c o c1 c2 c3 e)
theorem zipT_next_end_held {z TI TO T i1 i2 l1 l2 : Addr} {f : Bool} {oT : Obj} {k1 k2 : Nat} {xs ys : Array Value} {Q : PySem.Fin → Shared → Prop} (hh : A.handled = none) (D : ZipApart z TI TO i1 i2 l1 l2)
    (hz : IsZipHeld s.heap z TI TO T f) (hT : s.heap.get? T = some oT) (hTI : IsPair s.heap TI (.ref i1) (.ref i2))
    (h1 : s.heap.IsTupleIter i1 l1 k1) (h2 : s.heap.IsTupleIter i2 l2 k2) (hl1 : s.heap.IsTuple l1 xs) (hl2 : s.heap.IsTuple l2 ys) (hend : xs[k1]? = none ∨ ys[k2]? = none)
    (hE : ∀ h' e, (∀ c o, c ≠ z → c ≠ i1 → c ≠ i2 → s.heap.get? c = some o → h'.get? c = some o) → (∃ o, h'.get? e = some o ∧ o.cls = .type "StopIteration") → E (.ref e) { s with heap := h' }) :
    wpAny (model prog w) A (Builtin.«zip.__next__» ⟨[.ref z], []⟩) Q E s := by
  show wpAny _ _ (field (.ref z) 2 >>= _) _ _ _
  refine wpAny_bind (wpAny_field hz rfl (x := .bool false) rfl ?_)
  show wpAny _ _ (field (.ref z) 3 >>= _) _ _ _
  refine wpAny_bind (wpAny_field hz rfl (x := .ref TI) rfl ?_)
  refine wpAny_bind (wpAny_seqItems hTI rfl ?_)
  show wpAny _ _ (Builtin.SmallTypes.ownedTupleIsFree (.ref z) >>= _) _ _ _
  refine wpAny_bind (wpAny_tupleHeld_zip hz hT fun h₁ hz₁ hs₁ => ?_)
  simp only [Bool.false_eq_true, if_false]
  refine wpAny_bind ?_
  rw [← Array.forIn_toList]
  simp only [List.forIn_cons, List.forIn_nil]
  refine wpAny_bind (wpAny_bind (wpAny_holding ?_))
  show wpAny _ _ (Builtin.SmallTypes.nextOf (.ref i1) >>= _) _ _ _
  cases hx : xs[k1]? with
  | none =>
    refine wpAny_bind (RZ.nextOf_tuple_end (s := { s with heap := h₁ }) hh (h1.extBut hs₁.extBut D.i1z) (hl1.extBut hs₁.extBut D.l1z) hx fun h₂ e hs₂ he => ?_)
    exact hE h₂ e (fun c o c1 c2 _ x => hs₂ _ _ c2 (hs₁.extBut _ _ c1 x)) he
  | some x =>
    have hy : ys[k2]? = none := by rcases hend with h | h; rw [hx] at h; cases h; exact h
    refine wpAny_bind (RZ.nextOf_tuple_item (s := { s with heap := h₁ }) (h1.extBut hs₁.extBut D.i1z) (hl1.extBut hs₁.extBut D.l1z) hx fun h₂ h1₂ hs₂ => wpAny_pure ?_)
    refine wpAny_pure ?_
    refine wpAny_bind (wpAny_bind (wpAny_holding ?_))
    show wpAny _ _ (Builtin.SmallTypes.nextOf (.ref i2) >>= _) _ _ _
    refine wpAny_bind (RZ.nextOf_tuple_end (s := { s with heap := h₂ }) hh ((h2.extBut hs₁.extBut D.i2z).extBut hs₂.extBut D.i12.symm) ((hl2.extBut hs₁.extBut D.l2z).extBut hs₂.extBut D.l2i1) hy fun h₃ e hs₃ he => ?_)
    exact hE h₃ e (fun c o c1 c2 c3 x => hs₃ _ _ c3 (hs₂.extBut _ _ c2 (hs₁.extBut _ _ c1 x))) he
theorem pyNext_zipT_item_held {z TI TO T i1 i2 l1 l2 : Addr} {f : Bool} {oT : Obj} {k1 k2 : Nat} {xs ys : Array Value} {x y : Value} {Q : Option Value → Shared → Prop} (D : ZipApart z TI TO i1 i2 l1 l2)
    (hz : IsZipHeld s.heap z TI TO T f) (hT : s.heap.get? T = some oT) (hTI : IsPair s.heap TI (.ref i1) (.ref i2))
    (h1 : s.heap.IsTupleIter i1 l1 k1) (h2 : s.heap.IsTupleIter i2 l2 k2) (hl1 : s.heap.IsTuple l1 xs) (hl2 : s.heap.IsTuple l2 ys) (hx : xs[k1]? = some x) (hy : ys[k2]? = some y)
    (hQ : ∀ h', IsZipHeld h' z TI TO T true → h'.IsTupleIter i1 l1 (k1 + 1) → h'.IsTupleIter i2 l2 (k2 + 1) → IsPair h' s.heap.objs.size x y → h'.objs.size = s.heap.objs.size + 1 →
      (∀ c o, c ≠ z → c ≠ i1 → c ≠ i2 → s.heap.get? c = some o → h'.get? c = some o) → Q (some (.ref s.heap.objs.size)) { s with heap := h' }) :
    wpAny (model prog w) A (pyNext (.ref z)) Q E s := by
  have hTy : s.TypeIs (.ref z) "zip" := ⟨_, hz, rfl⟩
  unfold pyNext
  exact wpAny_bind (wpAny_attempt (wpAny_callSpecial?_slot (name := Str.ofString "__next__") hTy F.slot_zip_next
    (wpAny_call_entry F.slot_zip_next hTy F.entry_zip_next
      (zipT_next_item_held D hz hT hTI h1 h2 hl1 hl2 hx hy fun h' a1 a3 a4 a5 a6 a7 => wpAny_pure (hQ h' a1 a3 a4 a5 a6 a7)) (F.args_zip_next_1 _))))
theorem pyNext_zipT_end_held {z TI TO T i1 i2 l1 l2 : Addr} {f : Bool} {oT : Obj} {k1 k2 : Nat} {xs ys : Array Value} {Q : Option Value → Shared → Prop} (hh : A.handled = none) (D : ZipApart z TI TO i1 i2 l1 l2)
    (hz : IsZipHeld s.heap z TI TO T f) (hT : s.heap.get? T = some oT) (hTI : IsPair s.heap TI (.ref i1) (.ref i2))
    (h1 : s.heap.IsTupleIter i1 l1 k1) (h2 : s.heap.IsTupleIter i2 l2 k2) (hl1 : s.heap.IsTuple l1 xs) (hl2 : s.heap.IsTuple l2 ys) (hend : xs[k1]? = none ∨ ys[k2]? = none)
    (hQ : ∀ h', (∀ c o, c ≠ z → c ≠ i1 → c ≠ i2 → s.heap.get? c = some o → h'.get? c = some o) → Q none { s with heap := h' }) : wpAny (model prog w) A (pyNext (.ref z)) Q E s := by
  have hTy : s.TypeIs (.ref z) "zip" := ⟨_, hz, rfl⟩
  unfold pyNext
  refine wpAny_bind (wpAny_attempt (wpAny_callSpecial?_slot (name := Str.ofString "__next__") hTy F.slot_zip_next
    (wpAny_call_entry F.slot_zip_next hTy F.entry_zip_next (zipT_next_end_held hh D hz hT hTI h1 h2 hl1 hl2 hend fun h' e hk he => ?_) (F.args_zip_next_1 _))))
  obtain ⟨o, ho, hc⟩ := he
  refine wpAny_bind (wpAny_isInstance (T := "StopIteration") (b := true) ⟨o, ho, hc⟩ isSubtype_stop ?_)
  exact wpAny_pure (hQ _ hk)
/-- two lists, or two tuples, and their iterators at the k-th place -/
def SeqsAt (h : Heap) (i1 i2 l1 l2 : Addr) (xs ys : Array Value) (k : Nat) : Prop :=
  (h.IsListIter i1 l1 k ∧ h.IsListIter i2 l2 k ∧ h.IsList l1 xs ∧ h.IsList l2 ys) ∨ (h.IsTupleIter i1 l1 k ∧ h.IsTupleIter i2 l2 k ∧ h.IsTuple l1 xs ∧ h.IsTuple l2 ys)
theorem SeqsAt.at {h h' : Heap} {i1 i2 l1 l2 : Addr} {xs ys : Array Value} {k : Nat} (x : SeqsAt h i1 i2 l1 l2 xs ys k) (hk : ∀ b o, b ∈ [i1, i2, l1, l2] → h.get? b = some o → h'.get? b = some o) : SeqsAt h' i1 i2 l1 l2 xs ys k := by
  rcases x with ⟨a, b, c, d⟩ | ⟨a, b, c, d⟩
  · exact .inl ⟨a.at fun o e => hk _ o (by simp) e, b.at fun o e => hk _ o (by simp) e, c.at fun o e => hk _ o (by simp) e, d.at fun o e => hk _ o (by simp) e⟩
  · exact .inr ⟨a.at fun o e => hk _ o (by simp) e, b.at fun o e => hk _ o (by simp) e, c.at fun o e => hk _ o (by simp) e, d.at fun o e => hk _ o (by simp) e⟩
theorem SeqsAt.there {h : Heap} {i1 i2 l1 l2 : Addr} {xs ys : Array Value} {k : Nat} (x : SeqsAt h i1 i2 l1 l2 xs ys k) : (∃ o, h.get? i1 = some o) ∧ (∃ o, h.get? i2 = some o) := by
  rcases x with ⟨⟨o1, e1, _⟩, ⟨o2, e2, _⟩, _⟩ | ⟨⟨o1, e1, _⟩, ⟨o2, e2, _⟩, _⟩
  · exact ⟨⟨_, e1⟩, ⟨_, e2⟩⟩
  · exact ⟨⟨_, e1⟩, ⟨_, e2⟩⟩
/-- a zip ahead of its k-th turn; what it gave out stands, and is not S -/
def ZSt (z TI TO i1 i2 l1 l2 S : Addr) (xs ys : Array Value) (k : Nat) (h : Heap) : Prop :=
  IsPair h TI (.ref i1) (.ref i2) ∧ SeqsAt h i1 i2 l1 l2 xs ys k ∧ ((IsZip h z TI TO .none ∧ ∃ a b, IsPair h TO a b) ∨ ∃ T f oT, IsZipHeld h z TI TO T f ∧ h.get? T = some oT ∧ T ≠ z ∧ T ≠ i1 ∧ T ≠ i2 ∧ T ≠ S)
theorem ZSt.keep {z TI TO i1 i2 l1 l2 S : Addr} {xs ys : Array Value} {k : Nat} {h h' : Heap} (x : ZSt z TI TO i1 i2 l1 l2 S xs ys k h) (hS : S ∉ [z, TI, TO, i1, i2, l1, l2]) (hk : ∀ b o, b ≠ S → h.get? b = some o → h'.get? b = some o) : ZSt z TI TO i1 i2 l1 l2 S xs ys k h' := by
  simp only [List.mem_cons, List.not_mem_nil, or_false, not_or] at hS
  obtain ⟨dz, dTI, dTO, d1, d2, d3, d4⟩ := hS
  obtain ⟨hTI, hs, hz⟩ := x
  refine ⟨hk _ _ (Ne.symm dTI) hTI, hs.at fun b o hb e => hk b o (fun z => ?_) e, ?_⟩
  · simp only [List.mem_cons, List.not_mem_nil, or_false] at hb
    rcases hb with q | q | q | q
    · exact d1 (z.symm.trans q)
    · exact d2 (z.symm.trans q)
    · exact d3 (z.symm.trans q)
    · exact d4 (z.symm.trans q)
  · rcases hz with ⟨hz, a, b, hTO⟩ | ⟨T, f, oT, hz, hT, r1, r2, r3, r4⟩
    · exact .inl ⟨hk _ _ (Ne.symm dz) hz, a, b, hk _ _ (Ne.symm dTO) hTO⟩
    · exact .inr ⟨T, f, oT, hk _ _ (Ne.symm dz) hz, hk _ _ r4 hT, r1, r2, r3, r4⟩
theorem zst_item {z TI TO i1 i2 l1 l2 S : Addr} {xs ys : Array Value} {k : Nat} {x y : Value} {Q : Option Value → Shared → Prop} (D : ZipApart z TI TO i1 i2 l1 l2) (hst : ZSt z TI TO i1 i2 l1 l2 S xs ys k s.heap) (hS : S < s.heap.objs.size) (hx : xs[k]? = some x) (hy : ys[k]? = some y)
    (hQ : ∀ h', ZSt z TI TO i1 i2 l1 l2 S xs ys (k + 1) h' → h'.get? s.heap.objs.size = some { cls := .type "tuple", data := .seq #[x, y] } → h'.objs.size = s.heap.objs.size + 1 →
      (∀ b o, b ∉ [z, TO, i1, i2] → s.heap.get? b = some o → h'.get? b = some o) → Q (some (.ref s.heap.objs.size)) { s with heap := h' }) : wpAny (model prog w) A (pyNext (.ref z)) Q E s := by
  obtain ⟨hTI, hs, hz⟩ := hst
  obtain ⟨⟨o1, e1⟩, ⟨o2, e2⟩⟩ := hs.there
  have n1 : s.heap.objs.size ≠ i1 := Nat.ne_of_gt (Heap.lt_size e1)
  have n2 : s.heap.objs.size ≠ i2 := Nat.ne_of_gt (Heap.lt_size e2)
  have nS : s.heap.objs.size ≠ S := Nat.ne_of_gt hS
  rcases hz with ⟨hz, a, b, hTO⟩ | ⟨T, f, oT, hz, hT, r1, r2, r3, r4⟩
  · have nz : s.heap.objs.size ≠ z := Nat.ne_of_gt (Heap.lt_size hz)
    rcases hs with ⟨h1, h2, hl1, hl2⟩ | ⟨h1, h2, hl1, hl2⟩
    · refine wpAny_pyNext_zip_item D hz hTI hTO h1 h2 hl1 hl2 hx hy fun h' a1 a2 a3 a4 a5 a6 hk => ?_
      exact hQ h' ⟨hk _ _ D.TIz D.TITO D.TIi1 D.TIi2 hTI, .inl ⟨a3, a4, hl1.at fun o e => hk _ o D.l1z D.l1TO D.l1i1 D.l1i2 e, hl2.at fun o e => hk _ o D.l2z D.l2TO D.l2i1 D.l2i2 e⟩, .inr ⟨_, false, _, a1, a5, nz, n1, n2, nS⟩⟩ a5 a6
        fun c o hc e => hk c o (fun x => hc (by simp [x])) (fun x => hc (by simp [x])) (fun x => hc (by simp [x])) (fun x => hc (by simp [x])) e
    · refine RZ.pyNext_zipT_item D hz hTI hTO h1 h2 hl1 hl2 hx hy fun h' a1 a2 a3 a4 a5 a6 hk => ?_
      exact hQ h' ⟨hk _ _ D.TIz D.TITO D.TIi1 D.TIi2 hTI, .inr ⟨a3, a4, hl1.at fun o e => hk _ o D.l1z D.l1TO D.l1i1 D.l1i2 e, hl2.at fun o e => hk _ o D.l2z D.l2TO D.l2i1 D.l2i2 e⟩, .inr ⟨_, false, _, a1, a5, nz, n1, n2, nS⟩⟩ a5 a6
        fun c o hc e => hk c o (fun x => hc (by simp [x])) (fun x => hc (by simp [x])) (fun x => hc (by simp [x])) (fun x => hc (by simp [x])) e
  · rcases hs with ⟨h1, h2, hl1, hl2⟩ | ⟨h1, h2, hl1, hl2⟩
    · refine wpAny_pyNext_zip_item_held D hz hT hTI h1 h2 hl1 hl2 hx hy fun h' a1 a3 a4 a5 a6 hk => ?_
      exact hQ h' ⟨hk _ _ D.TIz D.TIi1 D.TIi2 hTI, .inl ⟨a3, a4, hl1.at fun o e => hk _ o D.l1z D.l1i1 D.l1i2 e, hl2.at fun o e => hk _ o D.l2z D.l2i1 D.l2i2 e⟩, .inr ⟨T, true, oT, a1, hk _ _ r1 r2 r3 hT, r1, r2, r3, r4⟩⟩ a5 a6
        fun c o hc e => hk c o (fun x => hc (by simp [x])) (fun x => hc (by simp [x])) (fun x => hc (by simp [x])) e
    · refine pyNext_zipT_item_held D hz hT hTI h1 h2 hl1 hl2 hx hy fun h' a1 a3 a4 a5 a6 hk => ?_
      exact hQ h' ⟨hk _ _ D.TIz D.TIi1 D.TIi2 hTI, .inr ⟨a3, a4, hl1.at fun o e => hk _ o D.l1z D.l1i1 D.l1i2 e, hl2.at fun o e => hk _ o D.l2z D.l2i1 D.l2i2 e⟩, .inr ⟨T, true, oT, a1, hk _ _ r1 r2 r3 hT, r1, r2, r3, r4⟩⟩ a5 a6
        fun c o hc e => hk c o (fun x => hc (by simp [x])) (fun x => hc (by simp [x])) (fun x => hc (by simp [x])) e
theorem zst_done {z TI TO i1 i2 l1 l2 S : Addr} {xs ys : Array Value} {k : Nat} {Q : Option Value → Shared → Prop} (hh : A.handled = none) (D : ZipApart z TI TO i1 i2 l1 l2) (hst : ZSt z TI TO i1 i2 l1 l2 S xs ys k s.heap) (hend : xs[k]? = none ∨ ys[k]? = none)
    (hQ : ∀ h', (∀ b o, b ∉ [z, TO, i1, i2] → s.heap.get? b = some o → h'.get? b = some o) → Q none { s with heap := h' }) : wpAny (model prog w) A (pyNext (.ref z)) Q E s := by
  obtain ⟨hTI, hs, hz⟩ := hst
  rcases hz with ⟨hz, a, b, hTO⟩ | ⟨T, f, oT, hz, hT, r1, r2, r3, r4⟩
  · rcases hs with ⟨h1, h2, hl1, hl2⟩ | ⟨h1, h2, hl1, hl2⟩
    · exact wpAny_pyNext_zip_end hh D hz hTI hTO h1 h2 hl1 hl2 hend fun h' hk => hQ h' fun c o hc e => hk c o (fun x => hc (by simp [x])) (fun x => hc (by simp [x])) (fun x => hc (by simp [x])) (fun x => hc (by simp [x])) e
    · exact RZ.pyNext_zipT_end hh D hz hTI hTO h1 h2 hl1 hl2 hend fun h' hk => hQ h' fun c o hc e => hk c o (fun x => hc (by simp [x])) (fun x => hc (by simp [x])) (fun x => hc (by simp [x])) (fun x => hc (by simp [x])) e
  · rcases hs with ⟨h1, h2, hl1, hl2⟩ | ⟨h1, h2, hl1, hl2⟩
    · exact wpAny_pyNext_zip_end_held hh D hz hT hTI h1 h2 hl1 hl2 hend fun h' hk => hQ h' fun c o hc e => hk c o (fun x => hc (by simp [x])) (fun x => hc (by simp [x])) (fun x => hc (by simp [x])) e
    · exact pyNext_zipT_end_held hh D hz hT hTI h1 h2 hl1 hl2 hend fun h' hk => hQ h' fun c o hc e => hk c o (fun x => hc (by simp [x])) (fun x => hc (by simp [x])) (fun x => hc (by simp [x])) e
end
/-- the pairs of xs and ys stand at as, above lo, rising -/
structure ZG (xs ys : Array Value) (lo : Addr) (h : Heap) (as : List Addr) : Prop where
  rise : as.Pairwise (· < ·)
  above : ∀ a ∈ as, lo < a
  pairs : ∀ (j : Nat) (a : Addr), as[j]? = some a → ∃ x y, xs[j]? = some x ∧ ys[j]? = some y ∧ h.get? a = some { cls := .type "tuple", data := .seq #[x, y] }
theorem ZG.there {xs ys : Array Value} {lo : Addr} {h : Heap} {as : List Addr} (g : ZG xs ys lo h as) {a : Addr} (ha : a ∈ as) : a < h.objs.size := by
  obtain ⟨j, hj⟩ := List.mem_iff_getElem?.mp ha
  obtain ⟨_, _, _, _, e⟩ := g.pairs j a hj
  exact Heap.lt_size e
section
variable {prog : Program} {w : World} {A : Around} {s : Shared} {R : Result → Shared → Prop} {xs ys : Array Value} {z TI TO i1 i2 l1 l2 S : Addr}
theorem zil_loop (hh : A.handled = none) (D : ZipApart z TI TO i1 i2 l1 l2) (hSd : S ∉ [z, TI, TO, i1, i2, l1, l2]) (hlo : ∀ b ∈ [z, TO, i1, i2], b < S) (hn : xs.size ≤ sizeLine) (hxy : xs.size = ys.size) (res : Value) {h₁ : Heap}
    (hR : ∀ h' tk acc c as, (∀ b o, b ≠ S → b ∉ [z, TO, i1, i2] → h₁.get? b = some o → h'.get? b = some o) → h'.get? S = some { cls := .type "list", dict := none, data := .seq acc c, slots := #[] } → as.length = xs.size → ZG xs ys S h' as →
      acc.toList = as.map Value.ref → R (.ok (.ret res)) { s with heap := h', toks := tk }) :
    ∀ (k i : Nat) (h : Heap) (tk c : Nat) (acc : Array Value) (as : List Addr), xs.size - i = k → i ≤ xs.size → ZSt z TI TO i1 i2 l1 l2 S xs ys i h → (∀ b o, b ≠ S → b ∉ [z, TO, i1, i2] → h₁.get? b = some o → h.get? b = some o) →
      h.get? S = some { cls := .type "list", dict := none, data := .seq acc c, slots := #[] } → acc.toList = as.map Value.ref → as.length = i → ZG xs ys S h as →
      codeAny (model prog w) A (.builtin "list.extend.loop" ⟨[.ref S, .ref z, res], []⟩) R { s with heap := h, toks := tk } := by
  have hSw : S ∉ [z, TO, i1, i2] := fun q => hSd (by simp at q ⊢; rcases q with q | q | q | q <;> simp [q])
  intro k
  induction k with
  | zero =>
    intro i h tk c acc as hk hi hst hkeep hS hacc hal hG
    have hin : i = xs.size := by omega
    refine codeAny_builtin PySem.F.entry_extend_loop ?_
    rw [Around.under_plainId PySem.F.plain_extend_loop _]
    show wpAny _ A.in1 (pyNext (.ref z) >>= _) _ _ _
    refine wpAny_bind (zst_done (s := { s with heap := h, toks := tk }) (A := A.in1) hh D hst (.inl (Array.getElem?_eq_none (by omega))) fun h' he => ?_)
    refine wpAny_pure (hR h' tk acc c as (fun b o h1 h2 e => he b o h2 (hkeep b o h1 h2 e)) (he S _ hSw hS) (by omega) ⟨hG.rise, hG.above, fun j a hj => ?_⟩ hacc)
    obtain ⟨x, y, e1, e2, e3⟩ := hG.pairs j a hj
    have hab := hG.above a (List.mem_of_getElem? hj)
    exact ⟨x, y, e1, e2, he a _ (fun q => absurd (hlo a q) (Nat.not_lt.mpr (Nat.le_of_lt hab))) e3⟩
  | succ k ih =>
    intro i h tk c acc as hk hi hst hkeep hS hacc hal hG
    have hlt : i < xs.size := by omega
    have hlt2 : i < ys.size := by omega
    have hsz : acc.size = i := by rw [← Array.length_toList, hacc, List.length_map, hal]
    refine codeAny_builtin PySem.F.entry_extend_loop ?_
    rw [Around.under_plainId PySem.F.plain_extend_loop _]
    show wpAny _ A.in1 (pyNext (.ref z) >>= _) _ _ _
    have ex := Array.getElem?_eq_getElem hlt
    have ey := Array.getElem?_eq_getElem hlt2
    generalize xs[i] = x at ex
    generalize ys[i] = y at ey
    refine wpAny_bind (zst_item (s := { s with heap := h, toks := tk }) D hst (Heap.lt_size hS) ex ey fun h' hst' ht hz hkp => ?_)
    dsimp only at ht hz hkp ⊢
    have hS' := hkp S _ hSw hS
    have up : ∀ b o, b ≠ S → h'.get? b = some o → (h'.update S (Obj.mapSeq (·.push (Value.ref h.objs.size)))).get? b = some o := fun b o hb e => (Heap.get?_update_other _ _ (Ne.symm hb)).trans e
    have hSl : S < h.objs.size := Heap.lt_size hS
    show wpAny _ A.in1 (updateSeq S (·.push (Value.ref h.objs.size)) >>= _) _ _ _
    refine wpAny_bind ?_
    refine wpAny_updateSeq hS' rfl (wpAny_pure ⟨plainId_quiet PySem.F.plain_extend_loop _, ih (i + 1) _ tk _ (acc.push (Value.ref h.objs.size)) (as ++ [h.objs.size]) (by omega) hlt (hst'.keep hSd up)
      (fun b o h1 h2 e => up b o h1 (hkp b o h2 (hkeep b o h1 h2 e))) (Heap.get?_update_self _ hS' rfl) (by rw [Array.toList_push, hacc, List.map_append]; rfl) (by rw [List.length_append, hal]; rfl) ⟨?_, ?_, ?_⟩⟩) (by rw [hsz]; omega) (by show (acc.push (Value.ref h.objs.size)).size ≤ sizeLine + 1; rw [Array.size_push, hsz]; omega)
    · refine List.pairwise_append.mpr ⟨hG.rise, List.pairwise_singleton _ _, fun a ha b hb => ?_⟩
      rw [List.mem_singleton.mp hb]
      exact hG.there ha
    · intro a ha
      rcases List.mem_append.mp ha with ha | ha
      · exact hG.above a ha
      · rw [List.mem_singleton.mp ha]; exact hSl
    · intro j b hj
      rcases Nat.lt_trichotomy j as.length with h1 | h1 | h1
      · rw [List.getElem?_append_left h1] at hj
        obtain ⟨x', y', e1, e2, e3⟩ := hG.pairs j b hj
        have hb := hG.above b (List.mem_of_getElem? hj)
        exact ⟨x', y', e1, e2, up b _ (Nat.ne_of_gt hb) (hkp b _ (fun q => absurd (hlo b q) (Nat.not_lt.mpr (Nat.le_of_lt hb))) e3)⟩
      · subst h1
        have hb : h.objs.size = b := by simpa using hj
        subst hb
        exact ⟨x, y, by rw [hal]; exact ex, by rw [hal]; exact ey, up _ _ (Nat.ne_of_gt hSl) ht⟩
      · have hnone : (as ++ [h.objs.size])[j]? = none := List.getElem?_eq_none (by rw [List.length_append, List.length_singleton]; omega)
        rw [hnone] at hj; cases hj
end
theorem zip_no_len : typeLookup (.type "zip") "__len__" = pure none := am_miss_of_fast (by decide +kernel)
theorem zip_no_hint : typeLookup (.type "zip") "__length_hint__" = pure none := am_miss_of_fast (by decide +kernel)
section
variable {prog : Program} {w : World} {A : Around} {E : Value → Shared → Prop} {s : Shared} {xs ys : Array Value} {z TI TO i1 i2 l1 l2 : Addr}
theorem zip_hint {r : Addr} (hT : s.TypeIs (.ref r) "zip") {Q : Bool → Shared → Prop} (h : Q true s) : wpAny (model prog w) A (Builtin.List.listLengthHint (.ref r)) Q E s := by
  unfold Builtin.List.listLengthHint
  refine wpAny_bind (wpAny_specialOf hT zip_no_len ?_)
  refine wpAny_bind (wpAny_specialOf hT zip_no_hint ?_)
  exact wpAny_pure h
theorem zst_type {S : Addr} {k : Nat} {h : Heap} (x : ZSt z TI TO i1 i2 l1 l2 S xs ys k h) : ∃ o, h.get? z = some o ∧ o.cls = .type "zip" := by
  rcases x.2.2 with ⟨hz, _⟩ | ⟨T, f, oT, hz, _⟩
  · exact ⟨_, hz, rfl⟩
  · exact ⟨_, hz, rfl⟩
theorem zil_extend {R : Result → Shared → Prop} {S : Addr} {f0 : Value} (hh : A.handled = none) (D : ZipApart z TI TO i1 i2 l1 l2) (hSd : S ∉ [z, TI, TO, i1, i2, l1, l2]) (hlo : ∀ b ∈ [z, TO, i1, i2], b < S) (hn : xs.size ≤ sizeLine) (hxy : xs.size = ys.size)
    (hz : IsZip s.heap z TI TO f0) (hst : ZSt z TI TO i1 i2 l1 l2 S xs ys 0 s.heap) (res : Value) (c₀ : Nat) (hS : s.heap.get? S = some { cls := .type "list", data := .seq #[] c₀ })
    (hR : ∀ h' tk acc c as, (∀ b o, b ≠ S → b ∉ [z, TO, i1, i2] → s.heap.get? b = some o → h'.get? b = some o) → h'.get? S = some { cls := .type "list", dict := none, data := .seq acc c, slots := #[] } → as.length = xs.size → ZG xs ys S h' as →
      acc.toList = as.map Value.ref → R (.ok (.ret res)) { s with heap := h', toks := tk }) :
    wpAny (model prog w) A.in1 (Builtin.List.listExtendWith (.ref S) (.ref z) res)
      (fun fin s' => match fin with | .done f => R (.ok f) s' | .again c' => c'.quiet = true ∧ codeAny (model prog w) A c' R s') (fun e s' => R (.error e) s') s := by
  have key : ∀ (h : Heap) (c₁ tk : Nat), (∀ b o, b ≠ S → s.heap.get? b = some o → h.get? b = some o) →
      h.get? S = some { cls := .type "list", data := .seq #[] c₁ } → codeAny (model prog w) A (.builtin "list.extend.loop" ⟨[.ref S, .ref z, res], []⟩) R { s with heap := h, toks := tk } := by
    intro h c₁ tk hk hS₁
    exact zil_loop (s := s) (h₁ := s.heap) hh D hSd hlo hn hxy res hR xs.size 0 h tk c₁ #[] [] (Nat.sub_zero _) (Nat.zero_le _) (hst.keep hSd hk) (fun b o hb _ e => hk b o hb e) hS₁ rfl rfl
      ⟨List.Pairwise.nil, (fun _ ha => nomatch ha), (fun j a hj => by simp at hj)⟩
  have hT : s.TypeIs (.ref z) "zip" := ⟨_, hz, rfl⟩
  have hSr : S ≠ z := fun q => hSd (by simp [q])
  unfold Builtin.List.listExtendWith
  refine wpAny_bind (wpAny_typeOf (T := "zip") hT ?_)
  have h1 : Builtin.List.listSameRef (.ref S) (.ref z) = false := by simp [Builtin.List.listSameRef, hSr]
  have h2 : (Value.type "zip" == Value.type "list") = false := by decide
  have h3 : (Value.type "zip" == Value.type "tuple") = false := by decide
  simp only [h1, h2, h3, Bool.or_false, Bool.false_eq_true, if_false]
  refine wpAny_bind (wpAny_pyIter_zip hz ?_)
  refine wpAny_bind (wpAny_holding (zip_hint hT ?_))
  refine wpAny_ite_split (fun _ => ?_) (fun _ => wpAny_pure ⟨plainId_quiet PySem.F.plain_extend_loop _, key _ c₀ _ (fun b o _ e => e) hS⟩)
  refine wpAny_bind (wpAny_rule ?_)
  refine wpAny_bind ?_
  show wpAny _ _ (updateSeq S (·.push .none) >>= fun _ => updateSeq S (·.pop)) _ _ _
  refine wpAny_bind (wpAny_updateSeq hS rfl ?_)
  have hS₂ := Heap.get?_update_self (Obj.mapSeq (·.push Value.none)) hS rfl
  refine wpAny_updateSeq (hz := by seq_fits) hS₂ rfl ?_
  have hS₃ := Heap.get?_update_self (Obj.mapSeq (·.pop)) hS₂ rfl
  refine wpAny_pure ⟨plainId_quiet PySem.F.plain_extend_loop _, key _ _ _ (fun b o hb e => ?_) hS₃⟩
  exact (Heap.get?_update_other _ _ (Ne.symm hb)).trans ((Heap.get?_update_other _ _ (Ne.symm hb)).trans e)
theorem zil_init {R : Result → Shared → Prop} {S : Addr} {f0 : Value} (hh : A.handled = none) (D : ZipApart z TI TO i1 i2 l1 l2) (hSd : S ∉ [z, TI, TO, i1, i2, l1, l2]) (hlo : ∀ b ∈ [z, TO, i1, i2], b < S) (hn : xs.size ≤ sizeLine) (hxy : xs.size = ys.size)
    (hz : IsZip s.heap z TI TO f0) (hst : ZSt z TI TO i1 i2 l1 l2 S xs ys 0 s.heap) (hS : s.heap.get? S = some { cls := .type "list", data := .seq #[] })
    (hR : ∀ h' tk acc c as, (∀ b o, b ≠ S → b ∉ [z, TO, i1, i2] → s.heap.get? b = some o → h'.get? b = some o) → h'.get? S = some { cls := .type "list", dict := none, data := .seq acc c, slots := #[] } → as.length = xs.size → ZG xs ys S h' as →
      acc.toList = as.map Value.ref → R (.ok (.ret .none)) { s with heap := h', toks := tk }) :
    wpAny (model prog w) A.in1 (Builtin.«list.__init__» ⟨[.ref S, .ref z], []⟩)
      (fun fin s' => match fin with | .done f => R (.ok f) s' | .again c' => c'.quiet = true ∧ codeAny (model prog w) A c' R s') (fun e s' => R (.error e) s') s := by
  show wpAny _ _ (do let old ← Builtin.List.listItems (.ref S); Builtin.List.listUpdate (.ref S) (fun _ => #[]); letGo old.toList.reverse; Builtin.List.listExtendWith (.ref S) (.ref z) .none) _ _ s
  refine wpAny_bind ?_
  unfold Builtin.List.listItems
  refine wpAny_bind (wpAny_seqItems hS rfl (wpAny_pure ?_))
  show wpAny _ _ (updateSeq S (fun _ => #[]) >>= fun _ => letGo (#[] : Array Value).toList.reverse >>= fun _ => Builtin.List.listExtendWith (.ref S) (.ref z) .none) _ _ s
  refine wpAny_bind (wpAny_updateSeq hS rfl ?_)
  have hS₂ := Heap.get?_update_self (Obj.mapSeq (fun _ => (#[] : Array Value))) hS rfl
  have oth : ∀ b o, b ≠ S → s.heap.get? b = some o → (s.heap.update S (Obj.mapSeq (fun _ => (#[] : Array Value)))).get? b = some o :=
    fun b o hb e => (Heap.get?_update_other _ _ (Ne.symm hb)).trans e
  have hzS : z ≠ S := fun q => hSd (by simp [q])
  refine wpAny_bind (wpAny_letGo ?_)
  refine zil_extend (s := { s with heap := s.heap.update S (Obj.mapSeq (fun _ => (#[] : Array Value))) }) hh D hSd hlo hn hxy (oth _ _ hzS hz) (hst.keep hSd oth) .none _ hS₂ (fun h' tk acc c as hk hS' hl hG hacc => ?_)
  exact hR h' tk acc c as (fun b o hb hw e => hk b o hb hw (oth b o hb e)) hS' hl hG hacc
theorem zil_call {Q : Value → Shared → Prop} {f0 : Value} (hh : A.handled = none) (D : ZipApart z TI TO i1 i2 l1 l2) (hlt : ∀ b ∈ [z, TI, TO, i1, i2, l1, l2], b < s.heap.objs.size) (hn : xs.size ≤ sizeLine) (hxy : xs.size = ys.size)
    (hz : IsZip s.heap z TI TO f0) (hst : ∀ S, S = s.heap.objs.size → ZSt z TI TO i1 i2 l1 l2 S xs ys 0 s.heap)
    (hQ : ∀ h' tk acc c as, (∀ b o, b ∉ [z, TO, i1, i2] → s.heap.get? b = some o → h'.get? b = some o) → h'.get? s.heap.objs.size = some { cls := .type "list", dict := none, data := .seq acc c, slots := #[] } → as.length = xs.size → ZG xs ys s.heap.objs.size h' as →
      acc.toList = as.map Value.ref → Q (.ref s.heap.objs.size) { s with heap := h', toks := tk }) :
    wpAny (model prog w) A (call (.type "list") [.ref z]) Q E s := by
  refine callType_codes (Q₁ := fun obj s₁ => obj = .ref s.heap.objs.size ∧ s₁ = { s with heap := s.heap.push { cls := .type "list", data := .seq #[] } }) PySem.F.called_list (PySem.F.typeCall_list_1 _) PySem.F.entry_list_init
    (code_list_new _ ⟨rfl, rfl⟩) fun obj s₁ h₁ => ?_
  obtain ⟨rfl, rfl⟩ := h₁
  have hS : (s.heap.push { cls := .type "list", data := .seq #[] }).get? s.heap.objs.size = some { cls := .type "list", data := .seq #[] } := Heap.get?_push_size _ rfl
  have hSd : s.heap.objs.size ∉ [z, TI, TO, i1, i2, l1, l2] := fun q => Nat.lt_irrefl _ (hlt _ q)
  have hlo : ∀ b ∈ [z, TO, i1, i2], b < s.heap.objs.size := fun b hb => hlt b (by simp at hb ⊢; rcases hb with q | q | q | q <;> simp [q])
  refine ⟨⟨_, hS, rfl⟩, PySem.F.args_list_init_2 _ _, zil_init (A := A.in1) (s := { s with heap := s.heap.push { cls := .type "list", data := .seq #[] } }) hh D hSd hlo hn hxy (Heap.get?_push_of_some _ hz) ((hst _ rfl).keep hSd fun b o _ e => Heap.get?_push_of_some _ e) hS (fun h' tk acc c as hk hS' hl hG hacc => ?_)⟩
  exact ⟨rfl, hQ h' tk acc c as (fun b o hw e => hk b o (Nat.ne_of_lt (Heap.lt_size e)) hw (Heap.get?_push_of_some _ e)) hS' hl hG hacc⟩
end
/-! ### the rule -/
/-- the pairs tracked at their addresses -/
def putP : Hp → List Addr → List (V × V) → Hp
  | H, a :: as, p :: ps => putP (upd H a (.tup [p.1, p.2])) as ps
  | H, _, _ => H
theorem putP_off {b : Addr} : ∀ (as : List Addr) (ps : List (V × V)) (H : Hp), b ∉ as → putP H as ps b = H b
  | [], _, _, _ => rfl
  | _ :: _, [], _, _ => rfl
  | a :: as, p :: ps, H, h => by
    show putP (upd H a (.tup [p.1, p.2])) as ps b = H b
    rw [putP_off as ps _ (fun z => h (List.mem_cons_of_mem _ z)), upd_ne (fun z => h (by rw [z]; exact List.mem_cons_self))]
theorem putP_at : ∀ (as : List Addr) (ps : List (V × V)) (H : Hp), as.length = ps.length → as.Nodup → Paired (fun (t : Addr) (p : V × V) => putP H as ps t = some (.tup [p.1, p.2])) as ps
  | [], [], _, _, _ => .nil
  | [], _ :: _, _, h, _ => by cases h
  | _ :: _, [], _, h, _ => by cases h
  | a :: as, p :: ps, H, h, hn => by
    have hn' := List.nodup_cons.mp hn
    have ih := putP_at as ps (upd H a (.tup [p.1, p.2])) (Nat.succ.inj h) hn'.2
    refine .cons ?_ ih
    show putP (upd H a (.tup [p.1, p.2])) as ps a = some (.tup [p.1, p.2])
    rw [putP_off as ps _ hn'.1, upd_same]
section
variable {X : Cx}
theorem pairs_laid {pins : List (Addr × Obj)} {σ : L2.St} {H : Hp} {s : Shared} {h' : Heap} {tk : Nat} {xv yv : List V} {xs ys : List Value} {acc : Array Value} {c : Nat} {as : List Addr} {S : Addr} (I : Inv X pins σ H s) (hz : xs.length ≤ sizeLine) (hx : Vals xv xs) (hy : Vals yv ys) (hxy : xs.length = ys.length)
    (hS0 : s.heap.objs.size ≤ S) (hk : ∀ b o, s.heap.get? b = some o → h'.get? b = some o) (hS : h'.get? S = some { cls := .type "list", dict := none, data := .seq acc c, slots := #[] }) (hl : as.length = xs.length) (hG : ZG xs.toArray ys.toArray S h' as) (hacc : acc.toList = as.map Value.ref) :
    ∃ H' : Hp, Same H H' ∧ H S = none ∧ (∀ t ∈ as, H t = none) ∧ S ∉ as ∧ H' S = some (.lst (as.map V.ref)) ∧ Paired (fun (t : Addr) (q : V × V) => H' t = some (.tup [q.1, q.2])) as (xv.zip yv) ∧ Inv X pins σ H' { s with heap := h', toks := tk } := by
  have lx := hx.length
  have ly := hy.length
  have lz : as.length = (xv.zip yv).length := by rw [List.length_zip]; omega
  have hSn : S ∉ as := fun z => Nat.lt_irrefl _ (hG.above _ z)
  have nd : as.Nodup := List.Pairwise.imp (fun {a b} (h : a < b) => Nat.ne_of_lt h) hG.rise
  have new : ∀ t ∈ as, H t = none := fun t ht => I.hok.fresh (Nat.le_trans hS0 (Nat.le_of_lt (hG.above t ht)))
  have newS : H S = none := I.hok.fresh hS0
  have atP := putP_at as (xv.zip yv) (upd H S (.lst (as.map V.ref))) lz nd
  have off : ∀ b, b ∉ as → b ≠ S → putP (upd H S (.lst (as.map V.ref))) as (xv.zip yv) b = H b := fun b h1 h2 => by rw [putP_off as _ _ h1, upd_ne h2]
  have low : ∀ b o, s.heap.get? b = some o → b ∉ as ∧ b ≠ S := fun b o e => ⟨fun z => absurd (Heap.lt_size e) (Nat.not_lt.mpr (Nat.le_trans hS0 (Nat.le_of_lt (hG.above b z)))), Nat.ne_of_lt (Nat.lt_of_lt_of_le (Heap.lt_size e) hS0)⟩
  have kp : ∀ b u, H b = some u → (putP (upd H S (.lst (as.map V.ref))) as (xv.zip yv)) b = some u := fun b u e => by
    rw [off b (fun z => by rw [new b z] at e; cases e) (fun z => by rw [z, newS] at e; cases e)]
    exact e
  have eS : putP (upd H S (.lst (as.map V.ref))) as (xv.zip yv) S = some (.lst (as.map V.ref)) := by rw [putP_off as _ _ hSn, upd_same]
  refine ⟨putP (upd H S (.lst (as.map V.ref))) as (xv.zip yv), kp, newS, new, hSn, eS, atP, ?_⟩
  refine I.call' (ch := []) rfl ⟨fun b o q _ _ _ => hk b o q, fun b o q _ _ _ => ⟨o.slots, hk b o q⟩, fun b o q n _ => ?_, fun b o q _ => ⟨o, hk b o q⟩, fun b xs q => kp b _ q, fun b o u q => kp b _ q, fun b ps q => ⟨#[], by rw [kp b _ q]; simp⟩⟩ (fun b u q => ?_) I.bare fun b z => by simp at z
  · obtain ⟨z1, z2⟩ := low b o q
    rw [off b z1 z2]
    exact n
  · by_cases hb : b ∈ as
    · obtain ⟨j, pk, e1, e2, e3⟩ := LiI.paired_ix atP hb
      rw [e3] at q
      cases q
      obtain ⟨x, y, f1, f2, f3⟩ := hG.pairs j b e1
      obtain ⟨g1, g2⟩ := List.getElem?_zip_eq_some.mp e2
      obtain ⟨u1, g3, g4⟩ := hx.get g1
      obtain ⟨u2, g5, g6⟩ := hy.get g2
      have f1 : xs[j]? = some x := by simpa using f1
      have f2 : ys[j]? = some y := by simpa using f2
      rw [f1] at g3; cases g3
      rw [f2] at g5; cases g5
      exact ⟨by show 2 ≤ sizeLine; decide, [x, y], .cons g4 (.cons g6 .nil), ⟨_, f3, rfl, _, rfl⟩⟩
    · by_cases hb2 : b = S
      · rw [hb2] at q ⊢
        rw [eS] at q
        cases q
        refine ⟨by rw [List.length_map]; omega, acc.toList, c, by rw [hacc]; exact LiI.vals_refs as, ?_⟩
        rw [Array.toArray_toList]
        exact hS
      · rw [off b hb hb2] at q
        exact (I.hok b u q).stay (fun d v _ y => hk d v y) (fun d y => kp d _ y) fun d xs y => kp d _ y
theorem lt_of7 {n c a b : Nat} (la : a < n) (lb : b < n) (e : c = n + 4 ∨ c = n + 2 ∨ c = n + 3 ∨ c = n ∨ c = n + 1 ∨ c = a ∨ c = b) : c < n + 5 := by omega
theorem ge_of4 {n c : Nat} (e : c = n + 4 ∨ c = n + 3 ∨ c = n ∨ c = n + 1) : ¬ c < n := by omega
def rLZip (K : PySem.W.Frag) : List V → Hp → VK → Prop := fun vs H Q => ∃ (a b : Addr) (xs ys : List V), vs = [.ref a, .ref b] ∧ ((SqL K H a xs ∧ SqL K H b ys) ∨ (SqT K H a xs ∧ SqT K H b ys)) ∧ xs.length = ys.length ∧
  ∀ (H' : Hp) (p : Addr) (ts : List Addr), Same H H' → H p = none → (∀ t ∈ ts, H t = none) → H' p = some (.lst (ts.map V.ref)) → Paired (fun (t : Addr) (q : V × V) => H' t = some (.tup [q.1, q.2])) ts (xs.zip ys) → Q (.ref p) H'
def tLZip (K : PySem.W.Frag) (ta : TA) : TE := fun σ H Q => ta σ H fun vs H1 => rLZip K vs H1 Q
theorem pe_listZip {e e2 : Expr} {ta : TA} {p p2 pos2 pos : Pos} (hc : X.calm = true) (hg : Gl X "list") (hm : X.mg "list" = none) (hv : bootBuiltins "list" = some (.type "list")) (hgz : Gl X "zip") (hmz : X.mg "zip" = none) (ha : PA X [e, e2] ta)
    (hs : starEach [.Call (.Name "zip" p2) [e, e2] [] pos2] X.env = (false, eval (.Call (.Name "zip" p2) [e, e2] [] pos2) X.env) :: starEach [] X.env := by rfl)
    (hz : starEach [e, e2] X.env = (false, eval e X.env) :: starEach [e2] X.env := by rfl) (hpl : (backTo pos2 (starEach [e2] X.env)).any (·.1) = false := by rfl) :
    PE X (.Call (.Name "list" p) [.Call (.Name "zip" p2) [e, e2] [] pos2] [] pos) (tLZip X.K ta) := by
  refine ⟨fun pins s σ H Q I hq => ?_⟩
  refine wpAny_Call_Name_kw (ld_blt I hg hm hv ?_)
  refine PyProof.Rows.callWith_type1 ?_ hs rfl
  rw [hs]
  show wpAny _ _ (spliced ((false, eval (.Call (.Name "zip" p2) [e, e2] [] pos2) X.env) :: backTo pos (starEach [] X.env))) _ _ s
  refine Calls.spliced_cons ?_
  refine Call_ (ld_blt I hgz hmz PyProof.Rows.boot_zip (PyProof.Rows.callWith_type1 (thn (ha.run pos2 pins s σ H _ I hq) fun us s1 ⟨vs, H1, I1, r1, q1⟩ => ?_) hz hpl))
  obtain ⟨a, b, xs, ys, ex, hab, hxy, q⟩ := q1
  subst ex
  cases r1 with
  | cons r rr =>
    cases rr with
    | cons r' rr =>
      cases rr
      cases r
      cases r'
      have fin : ∀ (h' : Heap) (its its2 : List Value), Vals xs its → Vals ys its2 → its.length ≤ sizeLine → a < s1.heap.objs.size → b < s1.heap.objs.size → IsZip h' (s1.heap.objs.size + 4) (s1.heap.objs.size + 2) (s1.heap.objs.size + 3) .none → IsPair h' (s1.heap.objs.size + 2) (.ref s1.heap.objs.size) (.ref (s1.heap.objs.size + 1)) →
          IsPair h' (s1.heap.objs.size + 3) .none .none → SeqsAt h' s1.heap.objs.size (s1.heap.objs.size + 1) a b its.toArray its2.toArray 0 → h'.objs.size = s1.heap.objs.size + 5 →
          (∀ c o, s1.heap.get? c = some o → h'.get? c = some o) → wpAny (model X.prog X.w) X.A (call (.type "list") [.ref (s1.heap.objs.size + 4)]) (EP X pins σ Q) X.xe { s1 with heap := h' } := by
        intro h' its its2 rv rv2 hzl la lb hz0 hTI hTO hsq hsz hk
        have l1 := rv.length
        have l2 := rv2.length
        refine zil_call (s := { s1 with heap := h' }) (xs := its.toArray) (ys := its2.toArray) (I1.ok.hd hc) (PySem.W.ktu_apart s1.heap.objs.size a b la lb) (fun c hcm => ?_) (by simpa using hzl) (by simp; omega) hz0 (fun S _ => ⟨hTI, hsq, .inl ⟨hz0, _, _, hTO⟩⟩) fun h'' tk acc c as hk2 hS hl hG hacc => ?_
        · have hle : c < s1.heap.objs.size + 5 := by
            have e' : c = s1.heap.objs.size + 4 ∨ c = s1.heap.objs.size + 2 ∨ c = s1.heap.objs.size + 3 ∨ c = s1.heap.objs.size ∨ c = s1.heap.objs.size + 1 ∨ c = a ∨ c = b := by simpa using hcm
            exact lt_of7 la lb e'
          show c < h'.objs.size
          rw [hsz]; exact hle
        · have kp : ∀ c o, s1.heap.get? c = some o → h''.get? c = some o := fun c o e => hk2 c o (fun z => by
            have e' : c = s1.heap.objs.size + 4 ∨ c = s1.heap.objs.size + 3 ∨ c = s1.heap.objs.size ∨ c = s1.heap.objs.size + 1 := by simpa using z
            exact absurd (Heap.lt_size e) (ge_of4 e')) (hk c o e)
          obtain ⟨H', k1, k2, k3, k4, k5, k6, J⟩ := pairs_laid (tk := tk) (S := h'.objs.size) I1 hzl rv rv2 (by omega) (by rw [hsz]; exact Nat.le_add_right _ _) kp hS (by simpa using hl) hG hacc
          exact ⟨.ref _, H', J, rfl, q H' _ as k1 k2 k3 k5 k6⟩
      rcases hab with ⟨hqx, hqy⟩ | ⟨hqx, hqy⟩
      · obtain ⟨its, rv, p1, hzl⟩ := I1.list hqx
        obtain ⟨its2, rv2, p2, _⟩ := I1.list hqy
        refine call_zip_2 p1.isList p2.isList fun h' hz hTI hTO h1 h2 hsz hk => ?_
        refine Calls.spliced_nil ?_
        refine fin h' its its2 rv rv2 (by rw [← rv.length]; exact hzl) p1.lt p2.lt hz hTI hTO (.inl ⟨h1, h2, p1.isList.at fun o e => hk _ o e, p2.isList.at fun o e => hk _ o e⟩) hsz hk
      · obtain ⟨its, rv, p1, hzl⟩ := I1.tuple hqx
        obtain ⟨its2, rv2, p2, _⟩ := I1.tuple hqy
        obtain ⟨o1, ho1, _⟩ := id p1
        obtain ⟨o2, ho2, _⟩ := id p2
        have q1 : s1.heap.IsTuple a its.toArray := p1
        have q2 : s1.heap.IsTuple b its2.toArray := p2
        refine RZ.call_zipT q1 q2 fun h' hz hTI hTO h1 h2 hsz hk => ?_
        refine Calls.spliced_nil ?_
        refine fin h' its its2 rv rv2 (by rw [← rv.length]; exact hzl) (Heap.lt_size ho1) (Heap.lt_size ho2) hz hTI hTO (.inr ⟨h1, h2, q1.at fun o e => hk _ o e, q2.at fun o e => hk _ o e⟩) hsz hk
end
end J

namespace J
open PySem L2
/-! ### while xs:, the measure told by the invariant -/
theorem least_of (P : Nat → Prop) (h : ∃ m, P m) : ∃ m, P m ∧ ∀ k, P k → m ≤ k := by
  obtain ⟨m, hm⟩ := h
  induction m using Nat.strongRecOn with
  | _ m ih =>
    by_cases z : ∃ k, k < m ∧ P k
    · obtain ⟨k, hk, pk⟩ := z
      exact ih k hk pk
    · exact ⟨m, hm, fun k pk => Nat.le_of_not_lt fun hk => z ⟨k, hk, pk⟩⟩
open Classical in
noncomputable def mu (P : Nat → L2.St → Hp → Prop) (σ : L2.St) (H : Hp) : Nat := if h : ∃ m, P m σ H then Classical.choose (least_of _ h) else 0
theorem mu_at {P : Nat → L2.St → Hp → Prop} {σ : L2.St} {H : Hp} (h : ∃ m, P m σ H) : P (mu P σ H) σ H := by
  unfold mu
  rw [dif_pos h]
  exact (Classical.choose_spec (least_of _ h)).1
theorem mu_le {P : Nat → L2.St → Hp → Prop} {σ : L2.St} {H : Hp} {m : Nat} (h : P m σ H) : mu P σ H ≤ m := by
  unfold mu
  rw [dif_pos ⟨m, h⟩]
  exact (Classical.choose_spec (least_of _ ⟨m, h⟩)).2 m h
/-- what a turn leaves -/
def WLess (P : Nat → L2.St → Hp → Prop) (m : Nat) (σ : L2.St) (H : Hp) : Prop := (∃ k, P k σ H) ∧ mu P σ H < m
theorem less_of {P : Nat → L2.St → Hp → Prop} {m k : Nat} {σ : L2.St} {H : Hp} (h : P k σ H) (hk : k < m) : WLess P m σ H := ⟨⟨k, h⟩, Nat.lt_of_le_of_lt (mu_le h) hk⟩
theorem while_listM {K : PySem.W.Frag} {i : Nat} {tb : TS} {D : Ends} {σ : L2.St} {H : Hp} (P : Nat → L2.St → Hp → Prop) (m0 : Nat) (h0 : P m0 σ H)
    (hs : ∀ m σ H, P m σ H → ∃ p xs, σ[i]? = some (some (.ref p)) ∧ H p = some (.lst xs) ∧ (xs = [] → D.nx σ H) ∧ (xs ≠ [] → tb { D with nx := WLess P m, ct := WLess P m, bk := D.nx } σ H)) :
    tWhile (fun σ H Q => tVar i σ H fun x H' => ∃ k, TruV K x H' k ∧ Q k H') tb D σ H :=
  while_list (fun σ H => ∃ m, P m σ H) (mu P) ⟨m0, h0⟩ fun σ H p => hs _ σ H (mu_at p)
end J

/-! ### matching -/
namespace J
open PySem L2
open Classical in
mutual
/-- the match of a pattern with a term, behind the table tb -/
noncomputable def mtc : Tm → Tm → List (Int × Tm) → Option (List (Int × Tm))
  | .var n, t, tb => match look tb n with
    | none => some (tb ++ [(n, t)])
    | some u => if u = t then some tb else none
  | .app _ _, .var _, _ => none
  | .app f ps, .app g ts, tb => if f = g ∧ ps.length = ts.length then mtcs ps ts tb else none
noncomputable def mtcs : List Tm → List Tm → List (Int × Tm) → Option (List (Int × Tm))
  | [], _, tb => some tb
  | p :: ps, ts, tb => match ts with
    | [] => some tb
    | t :: ts => (mtc p t tb).bind (mtcs ps ts)
end
theorem mtcs_nil (ts : List Tm) (tb : List (Int × Tm)) : mtcs [] ts tb = some tb := by unfold mtcs; rfl
theorem mtcs_cons (p t : Tm) (ps ts : List Tm) (tb : List (Int × Tm)) : mtcs (p :: ps) (t :: ts) tb = (mtc p t tb).bind (mtcs ps ts) := by rw [mtcs]
theorem mtc_var (n : Int) (t : Tm) (tb : List (Int × Tm)) : (look tb n = none → mtc (.var n) t tb = some (tb ++ [(n, t)])) ∧ (∀ u, look tb n = some u → (u = t → mtc (.var n) t tb = some tb) ∧ (u ≠ t → mtc (.var n) t tb = none)) := by
  refine ⟨fun h => by unfold mtc; rw [h], fun u h => ⟨fun e => by unfold mtc; rw [h]; exact if_pos e, fun e => by unfold mtc; rw [h]; exact if_neg e⟩⟩
theorem mtc_av (f : Str) (ps : List Tm) (n : Int) (tb : List (Int × Tm)) : mtc (.app f ps) (.var n) tb = none := by unfold mtc; rfl
theorem mtc_aa {f g : Str} {ps ts : List Tm} (h : f = g ∧ ps.length = ts.length) (tb : List (Int × Tm)) : mtc (.app f ps) (.app g ts) tb = mtcs ps ts tb := by rw [mtc, if_pos h]
theorem mtc_aan {f g : Str} {ps ts : List Tm} (h : ¬ (f = g ∧ ps.length = ts.length)) (tb : List (Int × Tm)) : mtc (.app f ps) (.app g ts) tb = none := by rw [mtc, if_neg h]
theorem mtcs_app : ∀ (ps ts qs us : List Tm) (tb : List (Int × Tm)), ps.length = ts.length → mtcs (ps ++ qs) (ts ++ us) tb = (mtcs ps ts tb).bind (mtcs qs us)
  | [], [], qs, us, tb, _ => by rw [mtcs_nil]; rfl
  | [], _ :: _, _, _, _, h => nomatch h
  | _ :: _, [], _, _, _, h => nomatch h
  | p :: ps, t :: ts, qs, us, tb, h => by
    rw [List.cons_append, List.cons_append, mtcs_cons, mtcs_cons]
    cases mtc p t tb with
    | none => rfl
    | some tb' => exact mtcs_app ps ts qs us tb' (Nat.succ.inj h)
theorem mtcs_take (ps ts : List Tm) (tb : List (Int × Tm)) (i : Nat) (h : ps.length = ts.length) : mtcs ps ts tb = (mtcs (ps.take i) (ts.take i) tb).bind (mtcs (ps.drop i) (ts.drop i)) := by
  rw [← mtcs_app _ _ _ _ _ (by rw [List.length_take, List.length_take, h]), List.take_append_drop, List.take_append_drop]
theorem mtcs_succ (ps ts : List Tm) (tb tb' : List (Int × Tm)) (i : Nat) (p t : Tm) (h : ps.length = ts.length) (hp : ps[i]? = some p) (ht : ts[i]? = some t) (e : mtcs (ps.take i) (ts.take i) tb = some tb') : mtcs (ps.take (i + 1)) (ts.take (i + 1)) tb = mtc p t tb' := by
  rw [list_take_succ hp, list_take_succ ht, mtcs_app _ _ _ _ _ (by rw [List.length_take, List.length_take, h]), e]
  show mtcs [p] [t] tb' = _
  rw [mtcs_cons]
  cases mtc p t tb' with
  | none => rfl
  | some x => exact mtcs_nil [] x
/-- what is bound is among the terms -/
theorem mtc_len : ∀ (n : Nat) (p t : Tm) (tb tb' : List (Int × Tm)), p.sz ≤ n → mtc p t tb = some tb' → tb'.length ≤ tb.length + p.sz
  | 0, p, _, _, _, h, _ => by have := p.sz_pos; omega
  | n + 1, .var k, t, tb, tb', _, e => by
    obtain ⟨h1, h2⟩ := mtc_var k t tb
    cases hl : look tb k with
    | none => rw [h1 hl] at e; cases e; rw [List.length_append]; exact Nat.le_refl _
    | some u =>
      by_cases z : u = t
      · rw [(h2 u hl).1 z] at e; cases e; omega
      · rw [(h2 u hl).2 z] at e; cases e
  | n + 1, .app f ps, .var _, tb, tb', _, e => by rw [mtc_av] at e; cases e
  | n + 1, .app f ps, .app g ts, tb, tb', hn, e => by
    by_cases h : f = g ∧ ps.length = ts.length
    · rw [mtc_aa h] at e
      have hn : 1 + Tm.szs ps ≤ n + 1 := hn
      have key : ∀ (ps ts : List Tm) (tb tb' : List (Int × Tm)), Tm.szs ps ≤ n → mtcs ps ts tb = some tb' → tb'.length ≤ tb.length + Tm.szs ps := by
        intro ps
        induction ps with
        | nil => intro ts tb tb' _ e; rw [mtcs_nil] at e; cases e; exact Nat.le_refl _
        | cons p ps ih =>
          intro ts tb tb' hs e
          have hs : p.sz + Tm.szs ps ≤ n := hs
          cases ts with
          | nil =>
            have : mtcs (p :: ps) [] tb = some tb := by rw [mtcs]
            rw [this] at e; cases e; omega
          | cons t ts =>
            rw [mtcs_cons] at e
            cases h1 : mtc p t tb with
            | none => rw [h1] at e; cases e
            | some t1 =>
              rw [h1] at e
              have a := mtc_len n p t tb t1 (by omega) h1
              have b := ih ts t1 tb' (by omega) e
              show tb'.length ≤ tb.length + (p.sz + Tm.szs ps)
              omega
      have := key ps ts tb tb' (by omega) e
      show tb'.length ≤ tb.length + (1 + Tm.szs ps)
      omega
    · rw [mtc_aan h] at e; cases e
/-- what is bound is a part of the terms -/
theorem mtc_sz : ∀ (n : Nat) (p t : Tm) (tb tb' : List (Int × Tm)), p.sz ≤ n → mtc p t tb = some tb' → ∀ Z : Nat, t.sz ≤ Z → (∀ x ∈ tb, x.2.sz ≤ Z) → ∀ x ∈ tb', x.2.sz ≤ Z
  | 0, p, _, _, _, h, _ => by have := p.sz_pos; omega
  | n + 1, .var k, t, tb, tb', _, e => by
    intro Z hZ hb x hx
    obtain ⟨h1, h2⟩ := mtc_var k t tb
    cases hl : look tb k with
    | none =>
      rw [h1 hl] at e; cases e
      rcases List.mem_append.mp hx with z | z
      · exact hb x z
      · rw [List.mem_singleton.mp z]; exact hZ
    | some u =>
      by_cases z : u = t
      · rw [(h2 u hl).1 z] at e; cases e; exact hb x hx
      · rw [(h2 u hl).2 z] at e; cases e
  | n + 1, .app f ps, .var _, tb, tb', _, e => by rw [mtc_av] at e; cases e
  | n + 1, .app f ps, .app g ts, tb, tb', hn, e => by
    intro Z hZ hb
    by_cases h : f = g ∧ ps.length = ts.length
    · rw [mtc_aa h] at e
      have hn : 1 + Tm.szs ps ≤ n + 1 := hn
      have hZ : 1 + Tm.szs ts ≤ Z := hZ
      have key : ∀ (ps ts : List Tm) (tb tb' : List (Int × Tm)), Tm.szs ps ≤ n → Tm.szs ts ≤ Z → mtcs ps ts tb = some tb' → (∀ x ∈ tb, x.2.sz ≤ Z) → ∀ x ∈ tb', x.2.sz ≤ Z := by
        intro ps
        induction ps with
        | nil => intro ts tb tb' _ _ e hb; rw [mtcs_nil] at e; cases e; exact hb
        | cons p ps ih =>
          intro ts tb tb' hs ht e hb
          have hs : p.sz + Tm.szs ps ≤ n := hs
          cases ts with
          | nil =>
            have : mtcs (p :: ps) [] tb = some tb := by rw [mtcs]
            rw [this] at e; cases e; exact hb
          | cons t ts =>
            have ht : t.sz + Tm.szs ts ≤ Z := ht
            rw [mtcs_cons] at e
            cases h1 : mtc p t tb with
            | none => rw [h1] at e; cases e
            | some t1 =>
              rw [h1] at e
              exact ih ts t1 tb' (by omega) (by omega) e (mtc_sz n p t tb t1 (by omega) h1 Z (by omega) hb)
      exact key ps ts tb tb' (by omega) (by omega) e hb
    · rw [mtc_aan h] at e; cases e
theorem mtcs_sz : ∀ (ps ts : List Tm) (tb tb' : List (Int × Tm)) (Z : Nat), Tm.szs ts ≤ Z → mtcs ps ts tb = some tb' → (∀ x ∈ tb, x.2.sz ≤ Z) → ∀ x ∈ tb', x.2.sz ≤ Z
  | [], ts, tb, tb', Z, _, e, hb => by rw [mtcs_nil] at e; cases e; exact hb
  | p :: ps, [], tb, tb', Z, _, e, hb => by
    have : mtcs (p :: ps) [] tb = some tb := by rw [mtcs]
    rw [this] at e; cases e; exact hb
  | p :: ps, t :: ts, tb, tb', Z, hz, e, hb => by
    have hz : t.sz + Tm.szs ts ≤ Z := hz
    rw [mtcs_cons] at e
    cases h1 : mtc p t tb with
    | none => rw [h1] at e; cases e
    | some t1 =>
      rw [h1] at e
      exact mtcs_sz ps ts t1 tb' Z (by omega) e (mtc_sz p.sz p t tb t1 (Nat.le_refl _) h1 Z (by omega) hb)
theorem mtcs_len : ∀ (ps ts : List Tm) (tb tb' : List (Int × Tm)), mtcs ps ts tb = some tb' → tb'.length ≤ tb.length + Tm.szs ps
  | [], ts, tb, tb', e => by rw [mtcs_nil] at e; cases e; exact Nat.le_refl _
  | p :: ps, [], tb, tb', e => by
    have : mtcs (p :: ps) [] tb = some tb := by rw [mtcs]
    rw [this] at e; cases e; exact Nat.le_add_right _ _
  | p :: ps, t :: ts, tb, tb', e => by
    rw [mtcs_cons] at e
    cases h1 : mtc p t tb with
    | none => rw [h1] at e; cases e
    | some t1 =>
      rw [h1] at e
      have a := mtc_len p.sz p t tb t1 (Nat.le_refl _) h1
      have b := mtcs_len ps ts t1 tb' e
      show tb'.length ≤ tb.length + (p.sz + Tm.szs ps)
      omega
/-! pairs of terms that wait -/
def PrIn (H : Hp) : List V → List (Tm × Tm) → Prop
  | [], [] => True
  | w :: ws, x :: xs => (∃ (a : Addr) (u v : V), w = .ref a ∧ H a = some (.tup [u, v]) ∧ TmIn H x.1 u ∧ TmIn H x.2 v) ∧ PrIn H ws xs
  | _, _ => False
theorem PrIn.tu {H H' : Hp} (t : Tu H H') : ∀ {ws : List V} {xs : List (Tm × Tm)}, PrIn H ws xs → PrIn H' ws xs
  | [], [], _ => trivial
  | [], _ :: _, h => h.elim
  | _ :: _, [], h => h.elim
  | _ :: _, _ :: _, ⟨⟨a, u, v, e, h1, h2, h3⟩, h⟩ => ⟨⟨a, u, v, e, t _ _ h1, h2.tu t, h3.tu t⟩, PrIn.tu t h⟩
theorem PrIn.app {H : Hp} : ∀ {ws vs : List V} {xs ys : List (Tm × Tm)}, PrIn H ws xs → PrIn H vs ys → PrIn H (ws ++ vs) (xs ++ ys)
  | [], _, [], _, _, q => q
  | [], _, _ :: _, _, h, _ => h.elim
  | _ :: _, _, [], _, h, _ => h.elim
  | _ :: _, _, _ :: _, _, h, q => ⟨h.1, PrIn.app h.2 q⟩
theorem PrIn.length {H : Hp} : ∀ {ws : List V} {xs : List (Tm × Tm)}, PrIn H ws xs → ws.length = xs.length
  | [], [], _ => rfl
  | [], _ :: _, h => h.elim
  | _ :: _, [], h => h.elim
  | _ :: _, _ :: _, h => congrArg (· + 1) (PrIn.length h.2)
theorem PrIn.get {H : Hp} : ∀ {ws : List V} {xs : List (Tm × Tm)} {i : Nat} {w : V}, PrIn H ws xs → ws[i]? = some w → ∃ x a u v, xs[i]? = some x ∧ w = .ref a ∧ H a = some (.tup [u, v]) ∧ TmIn H x.1 u ∧ TmIn H x.2 v
  | [], _, i, _, _, e => by simp at e
  | _ :: _, [], _, _, h, _ => h.elim
  | y :: ws, x :: xs, 0, w, h, e => by
    obtain ⟨⟨a, u, v, h1, h2, h3, h4⟩, _⟩ := h
    have e : y = w := by simpa using e
    exact ⟨x, a, u, v, rfl, e ▸ h1, h2, h3, h4⟩
  | y :: ws, x :: xs, i + 1, w, h, e => by
    obtain ⟨x', a, u, v, h1, h2⟩ := PrIn.get h.2 (i := i) (w := w) (by simpa using e)
    exact ⟨x', a, u, v, by simpa using h1, h2⟩
theorem PrIn.snoc {H : Hp} {ws : List V} {xs : List (Tm × Tm)} (h : PrIn H ws xs) (hne : ws ≠ []) : ∃ ws' w xs' x, ws = ws' ++ [w] ∧ xs = xs' ++ [x] ∧ PrIn H ws' xs' ∧ PrIn H [w] [x] := by
  induction ws generalizing xs with
  | nil => exact absurd rfl hne
  | cons w ws ih =>
    cases xs with
    | nil => exact h.elim
    | cons x xs =>
      by_cases z : ws = []
      · subst z
        cases xs with
        | nil => exact ⟨[], w, [], x, rfl, rfl, trivial, h⟩
        | cons y ys => exact h.2.elim
      · obtain ⟨ws', w', xs', x', e1, e2, h1, h2⟩ := ih h.2 z
        exact ⟨w :: ws', w', x :: xs', x', by rw [e1]; rfl, by rw [e2]; rfl, ⟨h.1, h1⟩, h2⟩
/-- what list(zip(..)) made of two rows of terms -/
theorem PrIn.of_zip {H' : Hp} : ∀ {ts : List Addr} {us vs : List V} {ps qs : List Tm}, TmsIn H' ps us → TmsIn H' qs vs → ps.length = qs.length → Paired (fun (t : Addr) (q : V × V) => H' t = some (.tup [q.1, q.2])) ts (us.zip vs) → PrIn H' (ts.map V.ref) (ps.zip qs)
  | ts, us, vs, [], [], h1, h2, _, h => by
    cases (show us = [] from h1)
    cases (show vs = [] from h2)
    cases h
    exact trivial
  | _, _, _, [], _ :: _, _, _, h, _ => nomatch h
  | _, _, _, _ :: _, [], _, _, h, _ => nomatch h
  | ts, us, vs, p :: ps, q :: qs, ⟨u, us', e1, h1, h2⟩, ⟨v, vs', e2, h3, h4⟩, hl, h => by
    subst e1 e2
    rw [List.zip_cons_cons] at h
    cases h with
    | cons r t => exact ⟨⟨_, u, v, rfl, r, h1, h3⟩, PrIn.of_zip h2 h4 (Nat.succ.inj hl) t⟩
theorem zip_rev {α β : Type} : ∀ (xs : List α) (ys : List β), xs.length = ys.length → xs.reverse.zip ys.reverse = (xs.zip ys).reverse
  | [], [], _ => rfl
  | [], _ :: _, h => nomatch h
  | _ :: _, [], h => nomatch h
  | x :: xs, y :: ys, h => by
    have h := Nat.succ.inj h
    rw [List.reverse_cons, List.reverse_cons, List.zip_cons_cons, List.reverse_cons, ← zip_rev xs ys h, List.zip_append (by rw [List.length_reverse, List.length_reverse]; exact h)]
    rfl
end J

/-! ### range(i, j, -1) in a for -/
namespace J
open PySem L2
theorem down_ok {n : Nat} (h : n ≤ 1000000) : RgC ((n : Int) - 1) (-1) (-1) n := by
  have := RgC.neg (i := (n : Int) - 1) (j := -1) (by omega) (by omega) (by decide) (by decide)
  have e : ((n : Int) - 1 - (-1)).toNat = n := by omega
  rw [e] at this
  exact this
theorem down0_ok {n : Nat} (h : n ≤ 1000000) : RgC (n : Int) 0 (-1) n := by
  have := RgC.neg (i := (n : Int)) (j := 0) (by omega) (by omega) (by decide) (by decide)
  have e : ((n : Int) - 0).toNat = n := by omega
  rw [e] at this
  exact this
theorem catA {K : PySem.W.Frag} {H : Hp} {a b : Addr} {xs ys : List V} {Q : VK} (ha : H a = some (.tup xs)) (hb : H b = some (.tup ys)) (hy : ys ≠ []) (hl : xs.length + ys.length ≤ sizeLine) (k : ∀ p H', Same H H' → H' p = some (.tup (xs ++ ys)) → Q (.ref p) H') : rCatA K (.ref a) (.ref b) H Q := by
  refine ⟨a, b, xs, ys, rfl, rfl, SqT.of ha, SqT.of hb, hl, fun z => ?_, fun _ z => absurd z hy, fun _ _ p hp => ?_⟩
  · refine k b H (Same.refl _) ?_
    rw [z]; exact hb
  · exact k p _ (al_same hp rfl) upd_same
/-- the slots, written out anew -/
theorem at_state {t : TS} {D : Ends} {σ σ' : L2.St} {H : Hp} (e : σ = σ') (h : t D σ' H) : t D σ H := e ▸ h
theorem catB {K : PySem.W.Frag} {H : Hp} {a b : Addr} {xs ys : List V} {Q : VK} (ha : H a = some (.tup xs)) (hb : H b = some (.tup ys)) (hl : xs.length + ys.length ≤ sizeLine) (k : ∀ p H', Same H H' → H' p = some (.tup (xs ++ ys)) → Q (.ref p) H') : rCatA K (.ref a) (.ref b) H Q := by
  refine ⟨a, b, xs, ys, rfl, rfl, SqT.of ha, SqT.of hb, hl, fun z => ?_, fun _ z => ?_, fun _ _ p hp => ?_⟩
  · refine k b H (Same.refl _) ?_
    rw [z]; exact hb
  · refine k a H (Same.refl _) ?_
    rw [z, List.append_nil]; exact ha
  · exact k p _ (al_same hp rfl) upd_same
end J

namespace Lw
open PySem L2 PyProof.Rows J
local macro_rules | `(tactic| walk_at "hp") => `(tactic| first | assumption | exact upd_same)
local macro_rules | `(tactic| walk_at "side") => `(tactic| first
  | (show (0 : Int) < _; decide)
  | exact Or.inr ⟨by decide, by decide⟩
  | exact Or.inl ⟨by decide, by decide⟩
  | exact ⟨by decide, by decide⟩
  | exact ⟨by decide, by decide, by decide⟩
  | (show (_ : Int) ≠ 0; omega)
  | (show _ < _; omega)
  | exact ⟨by omega, by omega⟩
  | exact Or.inl ⟨by omega, by omega⟩
  | exact Or.inr ⟨by omega, by omega⟩)
local macro_rules | `(tactic| walk_at "rd1") => `(tactic| first
  | refine ⟨_, rfl, ?_⟩
  | refine ⟨_, _, rfl, rfl, by walk_at "side", ?_⟩
  | refine ⟨_, _, rfl, rfl, ?_⟩
  | refine .inl ⟨_, rfl, ?_⟩
  | refine ⟨_, _, _, _, rfl, rfl, SqL.of (by walk_at "hp"), by first | assumption | exact at_zero | rfl, ?_⟩
  | refine ⟨_, _, _, _, rfl, rfl, SqT.of (by walk_at "hp"), by first | assumption | exact at_zero | rfl, ?_⟩
  | refine ⟨_, _, rfl, .inl (SqL.of (by walk_at "hp")), ?_⟩
  | refine ⟨_, _, rfl, .inr (SqT.of (by walk_at "hp")), ?_⟩
  | refine ⟨_, _, _, _, rfl, rfl, by walk_at "hp", rfl, ?_⟩
  | refine ⟨rfl, ?_⟩)
local macro_rules | `(tactic| walk_at "rd") => `(tactic| repeat walk_at "rd1")
local macro_rules | `(tactic| walk_at "isi") => `(tactic| first
  | refine ⟨_, _, _, _, true, rfl, .ty _, .base (.int _), kit_ty (by decide +kernel), ?_⟩
  | refine ⟨_, _, _, _, false, rfl, .ty _, .base (.int _), kit_ty (by decide +kernel), ?_⟩
  | refine ⟨_, _, _, _, true, rfl, .ty _, .base (.tup (by walk_at "hp")), kit_ty (by decide +kernel), ?_⟩
  | refine ⟨_, _, _, _, false, rfl, .ty _, .base (.tup (by walk_at "hp")), kit_ty (by decide +kernel), ?_⟩
  | refine ⟨_, _, _, _, true, rfl, .ty _, .base (.lst (by walk_at "hp")), kit_ty (by decide +kernel), ?_⟩
  | refine ⟨_, _, _, _, false, rfl, .ty _, .base (.lst (by walk_at "hp")), kit_ty (by decide +kernel), ?_⟩
  | refine ⟨_, _, _, _, true, rfl, .ty _, .base (.dK (by walk_at "hp")), kit_ty (by decide +kernel), ?_⟩
  | refine ⟨_, _, _, _, false, rfl, .ty _, .base (.dK (by walk_at "hp")), kit_ty (by decide +kernel), ?_⟩
  | refine ⟨_, _, _, _, true, rfl, .ty _, .base (.str _), kit_ty (by decide +kernel), ?_⟩
  | refine ⟨_, _, _, _, false, rfl, .ty _, .base (.str _), kit_ty (by decide +kernel), ?_⟩
  | refine ⟨_, _, _, _, true, rfl, .ty _, .base (.bl _), kit_ty (by decide +kernel), ?_⟩
  | refine ⟨_, _, _, _, false, rfl, .ty _, .base (.bl _), kit_ty (by decide +kernel), ?_⟩
  | refine ⟨_, _, _, _, true, rfl, .ty _, .base (.non), kit_ty (by decide +kernel), ?_⟩
  | refine ⟨_, _, _, _, false, rfl, .ty _, .base (.non), kit_ty (by decide +kernel), ?_⟩)
local macro_rules | `(tactic| walk_at "sl1") => `(tactic| (refine ⟨_, _, rfl, SqT.of (by walk_at "hp"), sl1c _ _, ?_⟩; rw [cut1]))
local macro_rules | `(tactic| walk_at "ri") => `(tactic| repeat (first | walk_at "rd1" | walk_at "isi"))

def topS (i : Nat) : Stmt := PySem.Challenge.pw_joinedends_k22_instances_of_equations.main.body.getD i (.Pass ⟨0, 0, 0, 0⟩)
abbrev s_u_law_state : Stmt := topS 8
theorem sc_u_law_state : FnScope ["script"] ["script"] (defScope s_u_law_state) := ⟨rfl, rfl, rfl, by decide +kernel, rfl, by decide +kernel, by decide +kernel⟩
abbrev s_u_law_mix : Stmt := topS 6
theorem sc_u_law_mix : FnScope ["cell", "number"] ["cell"] (defScope s_u_law_mix) := ⟨rfl, rfl, rfl, by decide +kernel, rfl, by decide +kernel, by decide +kernel⟩
abbrev s_u_law_number : Stmt := topS 7
theorem sc_u_law_number : FnScope ["cell", "first"] ["cell"] (defScope s_u_law_number) := ⟨rfl, rfl, rfl, by decide +kernel, rfl, by decide +kernel, by decide +kernel⟩
abbrev s_u_law_draw : Stmt := topS 9
theorem sc_u_law_draw : FnScope ["state", "many", "value"] ["state", "many"] (defScope s_u_law_draw) := ⟨rfl, rfl, rfl, by decide +kernel, rfl, by decide +kernel, by decide +kernel⟩
abbrev s_u_law_word : Stmt := topS 10
theorem sc_u_law_word : FnScope ["state", "size", "letters", "k"] ["state", "size"] (defScope s_u_law_word) := ⟨rfl, rfl, rfl, by decide +kernel, rfl, by decide +kernel, by decide +kernel⟩
abbrev s_u_law_names : Stmt := topS 11
theorem sc_u_law_names : FnScope ["state", "count", "letters", "before", "behind", "first", "k"] ["state", "count"] (defScope s_u_law_names) := ⟨rfl, rfl, rfl, by decide +kernel, rfl, by decide +kernel, by decide +kernel⟩
abbrev s_u_law_operations : Stmt := topS 12
theorem sc_u_law_operations : FnScope ["state", "names", "arities", "k"] ["state"] (defScope s_u_law_operations) := ⟨rfl, rfl, rfl, by decide +kernel, rfl, by decide +kernel, by decide +kernel⟩
abbrev s_u_law_leaf : Stmt := topS 13
theorem sc_u_law_leaf : FnScope ["state", "operations", "count"] ["state", "operations", "count"] (defScope s_u_law_leaf) := ⟨rfl, rfl, rfl, by decide +kernel, rfl, by decide +kernel, by decide +kernel⟩
abbrev s_u_law_term : Stmt := topS 14
theorem sc_u_law_term : FnScope ["state", "operations", "count", "height", "name", "arity", "term", "k"] ["state", "operations", "count", "height"] (defScope s_u_law_term) := ⟨rfl, rfl, rfl, by decide +kernel, rfl, by decide +kernel, by decide +kernel⟩
abbrev s_u_law_values : Stmt := topS 18
theorem sc_u_law_values : FnScope ["state", "operations", "count", "inner", "values", "variable"] ["state", "operations", "count", "inner"] (defScope s_u_law_values) := ⟨rfl, rfl, rfl, by decide +kernel, rfl, by decide +kernel, by decide +kernel⟩
abbrev s_u_law_substitute : Stmt := topS 17
theorem sc_u_law_substitute : FnScope ["term", "substitution", "result", "argument"] ["term", "substitution"] (defScope s_u_law_substitute) := ⟨rfl, rfl, rfl, by decide +kernel, rfl, by decide +kernel, by decide +kernel⟩
abbrev s_u_law_match : Stmt := topS 19
theorem sc_u_law_match : FnScope ["pattern", "term", "found", "k"] ["pattern", "term", "found"] (defScope s_u_law_match) := ⟨rfl, rfl, rfl, by decide +kernel, rfl, by decide +kernel, by decide +kernel⟩
abbrev s_u_law_match_all : Stmt := topS 20
theorem sc_u_law_match_all : FnScope ["patterns", "terms", "found", "k"] ["patterns", "terms"] (defScope s_u_law_match_all) := ⟨rfl, rfl, rfl, by decide +kernel, rfl, by decide +kernel, by decide +kernel⟩
abbrev s_u_law_is_instance : Stmt := topS 22
theorem sc_u_law_is_instance : FnScope ["equation", "general"] ["equation", "general"] (defScope s_u_law_is_instance) := ⟨rfl, rfl, rfl, by decide +kernel, rfl, by decide +kernel, by decide +kernel⟩
abbrev s_u_law_tells : Stmt := topS 5
theorem sc_u_law_tells : FnScope ["actual", "due"] ["actual", "due"] (defScope s_u_law_tells) := ⟨rfl, rfl, rfl, by decide +kernel, rfl, by decide +kernel, by decide +kernel⟩
abbrev s_match_lists : Stmt := topS 1
theorem sc_match_lists : FnScope ["patterns", "terms", "found", "waiting", "pattern", "term"] ["patterns", "terms"] (defScope s_match_lists) := ⟨rfl, rfl, rfl, by decide +kernel, rfl, by decide +kernel, by decide +kernel⟩
abbrev s_is_instance : Stmt := topS 2
theorem sc_is_instance : FnScope ["equation", "general"] ["equation", "general"] (defScope s_is_instance) := ⟨rfl, rfl, rfl, by decide +kernel, rfl, by decide +kernel, by decide +kernel⟩
abbrev s_subsumes : Stmt := topS 3
theorem sc_subsumes : FnScope ["general", "equation", "left", "right"] ["general", "equation"] (defScope s_subsumes) := ⟨rfl, rfl, rfl, by decide +kernel, rfl, by decide +kernel, by decide +kernel⟩
abbrev s_u_law_told : Stmt := topS 23
theorem sc_u_law_told : FnScope ["general", "equation", "plain", "mirrored"] ["general", "equation"] (defScope s_u_law_told) := ⟨rfl, rfl, rfl, by decide +kernel, rfl, by decide +kernel, by decide +kernel⟩
abbrev s_u_law_positions : Stmt := topS 16
theorem sc_u_law_positions : FnScope ["term", "found", "k", "inner"] ["term"] (defScope s_u_law_positions) := ⟨rfl, rfl, rfl, by decide +kernel, rfl, by decide +kernel, by decide +kernel⟩
abbrev s_u_law_replace : Stmt := topS 15
theorem sc_u_law_replace : FnScope ["term", "position", "new", "k"] ["term", "position", "new"] (defScope s_u_law_replace) := ⟨rfl, rfl, rfl, by decide +kernel, rfl, by decide +kernel, by decide +kernel⟩
abbrev s_u_law_spoilt : Stmt := topS 21
theorem sc_u_law_spoilt : FnScope ["state", "operations", "count", "term", "places", "position"] ["state", "operations", "count", "term"] (defScope s_u_law_spoilt) := ⟨rfl, rfl, rfl, by decide +kernel, rfl, by decide +kernel, by decide +kernel⟩
abbrev s_law : Stmt := topS 24
theorem sc_law : FnScope ["script", "state", "operations", "general", "values", "first", "second", "kind", "equation", "k"] ["script"] (defScope s_law) := ⟨rfl, rfl, rfl, by decide +kernel, rfl, by decide +kernel, by decide +kernel⟩
structure Ad where
  a_u_law_state : Addr
  d_u_law_state : FuncData
  a_u_law_mix : Addr
  d_u_law_mix : FuncData
  a_u_law_number : Addr
  d_u_law_number : FuncData
  a_u_law_draw : Addr
  d_u_law_draw : FuncData
  a_u_law_word : Addr
  d_u_law_word : FuncData
  a_u_law_names : Addr
  d_u_law_names : FuncData
  a_u_law_operations : Addr
  d_u_law_operations : FuncData
  a_u_law_leaf : Addr
  d_u_law_leaf : FuncData
  a_u_law_term : Addr
  d_u_law_term : FuncData
  a_u_law_values : Addr
  d_u_law_values : FuncData
  a_u_law_substitute : Addr
  d_u_law_substitute : FuncData
  a_u_law_match : Addr
  d_u_law_match : FuncData
  a_u_law_match_all : Addr
  d_u_law_match_all : FuncData
  a_u_law_is_instance : Addr
  d_u_law_is_instance : FuncData
  a_u_law_tells : Addr
  d_u_law_tells : FuncData
  a_match_lists : Addr
  d_match_lists : FuncData
  a_is_instance : Addr
  d_is_instance : FuncData
  a_subsumes : Addr
  d_subsumes : FuncData
  a_u_law_told : Addr
  d_u_law_told : FuncData
  a_u_law_positions : Addr
  d_u_law_positions : FuncData
  a_u_law_replace : Addr
  d_u_law_replace : FuncData
  a_u_law_spoilt : Addr
  d_u_law_spoilt : FuncData
  a_law : Addr
  d_law : FuncData
structure Tx (K : PySem.W.Frag) (mg : Str → Option Value) (A : Ad) : Prop where
  F_u_law_state : Fun K "_law_state" "_law_state" s_u_law_state A.a_u_law_state A.d_u_law_state
  b_u_law_state : Binds K A.d_u_law_state ["script"] []
  m_u_law_state : mg "_law_state" = some (.ref A.a_u_law_state)
  F_u_law_mix : Fun K "_law_mix" "_law_mix" s_u_law_mix A.a_u_law_mix A.d_u_law_mix
  b_u_law_mix : Binds K A.d_u_law_mix ["cell"] []
  m_u_law_mix : mg "_law_mix" = some (.ref A.a_u_law_mix)
  F_u_law_number : Fun K "_law_number" "_law_number" s_u_law_number A.a_u_law_number A.d_u_law_number
  b_u_law_number : Binds K A.d_u_law_number ["cell"] []
  m_u_law_number : mg "_law_number" = some (.ref A.a_u_law_number)
  F_u_law_draw : Fun K "_law_draw" "_law_draw" s_u_law_draw A.a_u_law_draw A.d_u_law_draw
  b_u_law_draw : Binds K A.d_u_law_draw ["state", "many"] []
  m_u_law_draw : mg "_law_draw" = some (.ref A.a_u_law_draw)
  F_u_law_word : Fun K "_law_word" "_law_word" s_u_law_word A.a_u_law_word A.d_u_law_word
  b_u_law_word : Binds K A.d_u_law_word ["state", "size"] []
  m_u_law_word : mg "_law_word" = some (.ref A.a_u_law_word)
  F_u_law_names : Fun K "_law_names" "_law_names" s_u_law_names A.a_u_law_names A.d_u_law_names
  b_u_law_names : Binds K A.d_u_law_names ["state", "count"] []
  m_u_law_names : mg "_law_names" = some (.ref A.a_u_law_names)
  F_u_law_operations : Fun K "_law_operations" "_law_operations" s_u_law_operations A.a_u_law_operations A.d_u_law_operations
  b_u_law_operations : Binds K A.d_u_law_operations ["state"] []
  m_u_law_operations : mg "_law_operations" = some (.ref A.a_u_law_operations)
  F_u_law_leaf : Fun K "_law_leaf" "_law_leaf" s_u_law_leaf A.a_u_law_leaf A.d_u_law_leaf
  b_u_law_leaf : Binds K A.d_u_law_leaf ["state", "operations", "count"] []
  m_u_law_leaf : mg "_law_leaf" = some (.ref A.a_u_law_leaf)
  F_u_law_term : Fun K "_law_term" "_law_term" s_u_law_term A.a_u_law_term A.d_u_law_term
  b_u_law_term : Binds K A.d_u_law_term ["state", "operations", "count", "height"] []
  m_u_law_term : mg "_law_term" = some (.ref A.a_u_law_term)
  F_u_law_values : Fun K "_law_values" "_law_values" s_u_law_values A.a_u_law_values A.d_u_law_values
  b_u_law_values : Binds K A.d_u_law_values ["state", "operations", "count", "inner"] []
  m_u_law_values : mg "_law_values" = some (.ref A.a_u_law_values)
  F_u_law_substitute : Fun K "_law_substitute" "_law_substitute" s_u_law_substitute A.a_u_law_substitute A.d_u_law_substitute
  b_u_law_substitute : Binds K A.d_u_law_substitute ["term", "substitution"] []
  m_u_law_substitute : mg "_law_substitute" = some (.ref A.a_u_law_substitute)
  F_u_law_match : Fun K "_law_match" "_law_match" s_u_law_match A.a_u_law_match A.d_u_law_match
  b_u_law_match : Binds K A.d_u_law_match ["pattern", "term", "found"] []
  m_u_law_match : mg "_law_match" = some (.ref A.a_u_law_match)
  F_u_law_match_all : Fun K "_law_match_all" "_law_match_all" s_u_law_match_all A.a_u_law_match_all A.d_u_law_match_all
  b_u_law_match_all : Binds K A.d_u_law_match_all ["patterns", "terms"] []
  m_u_law_match_all : mg "_law_match_all" = some (.ref A.a_u_law_match_all)
  F_u_law_is_instance : Fun K "_law_is_instance" "_law_is_instance" s_u_law_is_instance A.a_u_law_is_instance A.d_u_law_is_instance
  b_u_law_is_instance : Binds K A.d_u_law_is_instance ["equation", "general"] []
  m_u_law_is_instance : mg "_law_is_instance" = some (.ref A.a_u_law_is_instance)
  F_u_law_tells : Fun K "_law_tells" "_law_tells" s_u_law_tells A.a_u_law_tells A.d_u_law_tells
  b_u_law_tells : Binds K A.d_u_law_tells ["actual", "due"] []
  m_u_law_tells : mg "_law_tells" = some (.ref A.a_u_law_tells)
  F_match_lists : Fun K "match_lists" "match_lists" s_match_lists A.a_match_lists A.d_match_lists
  b_match_lists : Binds K A.d_match_lists ["patterns", "terms"] []
  m_match_lists : mg "match_lists" = some (.ref A.a_match_lists)
  F_is_instance : Fun K "is_instance" "is_instance" s_is_instance A.a_is_instance A.d_is_instance
  b_is_instance : Binds K A.d_is_instance ["equation", "general"] []
  m_is_instance : mg "is_instance" = some (.ref A.a_is_instance)
  F_subsumes : Fun K "subsumes" "subsumes" s_subsumes A.a_subsumes A.d_subsumes
  b_subsumes : Binds K A.d_subsumes ["general", "equation"] []
  m_subsumes : mg "subsumes" = some (.ref A.a_subsumes)
  F_u_law_told : Fun K "_law_told" "_law_told" s_u_law_told A.a_u_law_told A.d_u_law_told
  b_u_law_told : Binds K A.d_u_law_told ["general", "equation"] []
  m_u_law_told : mg "_law_told" = some (.ref A.a_u_law_told)
  F_u_law_positions : Fun K "_law_positions" "_law_positions" s_u_law_positions A.a_u_law_positions A.d_u_law_positions
  b_u_law_positions : Binds K A.d_u_law_positions ["term"] []
  m_u_law_positions : mg "_law_positions" = some (.ref A.a_u_law_positions)
  F_u_law_replace : Fun K "_law_replace" "_law_replace" s_u_law_replace A.a_u_law_replace A.d_u_law_replace
  b_u_law_replace : Binds K A.d_u_law_replace ["term", "position", "new"] []
  m_u_law_replace : mg "_law_replace" = some (.ref A.a_u_law_replace)
  F_u_law_spoilt : Fun K "_law_spoilt" "_law_spoilt" s_u_law_spoilt A.a_u_law_spoilt A.d_u_law_spoilt
  b_u_law_spoilt : Binds K A.d_u_law_spoilt ["state", "operations", "count", "term"] []
  m_u_law_spoilt : mg "_law_spoilt" = some (.ref A.a_u_law_spoilt)
  F_law : Fun K "law" "law" s_law A.a_law A.d_law
  b_law : Binds K A.d_law ["script"] []
  m_law : mg "law" = some (.ref A.a_law)
  n_int : mg "int" = none
  n_isinstance : mg "isinstance" = none
  n_len : mg "len" = none
  n_list : mg "list" = none
  n_range : mg "range" = none
  n_zip : mg "zip" = none
section
variable {P : Program} {w : World} {K : PySem.W.Frag} {mg : Str → Option Value} {base : Heap} {A : Ad}
/-! _law_state -/
def sp_u_law_state (K : PySem.W.Frag) : Sp := fun vs H Q _ => ∃ (a : Addr) (ns : List Int), vs = [.ref a] ∧ SqL K H a (ns.map V.int) ∧ ns.length ≤ 63 ∧ ∀ s l H', Same H H' → H s = none → H l = none → St H' s l → Q (.ref s) H'
theorem ok_u_law_state (T : Tx K mg A) : FnOk P w K mg base CX0 1 A.a_u_law_state A.d_u_law_state ["script"] (sp_u_law_state K) := by
  refine T.F_u_law_state.ok sc_u_law_state (fun vs H Q E h => ?_) (fun cdv Ar outer s0 H vs Q E hr h => ?_)
  · obtain ⟨a, ns, rfl, _⟩ := h; rfl
  obtain ⟨a, ns, rfl, hS, h63, q⟩ := h
  refine ⟨_, (pss_one (ps_ret (pe_lst (pa_cons pe_int (pa_cons (pe_callTy (r := rListS K) j_list (by rfl) T.n_list boot_list (pa_cons (pv 0) pa_nil)) (pa_cons pe_int (pa_cons (pe_op op_add pe_int (pe_callB (r := rLenS K) j_len (by rfl) T.n_len PySem.boot_len (pa_cons (pv 0) pa_nil))) pa_nil))))))), ?_⟩
  walk_at "rd"
  refine ⟨a, _, rfl, .inl hS, ?_⟩
  first | intro l n1 | refine fun l n1 => ?_
  generalize ehn : upd H l _ = H1
  have s1 := J.al_same n1 ehn
  have h1 := J.al_at ehn
  clear ehn
  walk_at "rd"
  refine ⟨a, _, rfl, .inl (s1.seq hS), ?_⟩
  walk_at "rd"
  refine ⟨by show 4 ≤ sizeLine; decide, ?_⟩
  first | intro s n2 | refine fun s n2 => ?_
  generalize ehn : upd H1 s _ = H2
  have s2 := J.al_same n2 ehn
  have h2 := J.al_at ehn
  clear ehn
  refine q s l H2 (s1.trans s2) (s1.free n2) n1 ⟨0, 0, _, ns, h2, s2 _ _ h1, Int.le_refl _, Int.natCast_nonneg _, Int.le_refl _, ?_, ?_, h63⟩
  · rw [List.length_map]; omega
  · rw [List.length_map]; omega

/-! _law_mix -/
def sp_u_law_mix : Sp := fun vs H Q _ => ∃ c : Int, vs = [.int c] ∧ ∀ r : Int, 0 ≤ r → r < 2147483647 → Q (.int r) H
theorem ok_u_law_mix (T : Tx K mg A) : FnOk P w K mg base CX0 (1) A.a_u_law_mix A.d_u_law_mix ["cell"] sp_u_law_mix := by
  refine T.F_u_law_mix.ok sc_u_law_mix (fun vs H Q E h => ?_) (fun cdv Ar outer s0 H vs Q E hr h => ?_)
  · obtain ⟨c, rfl, _⟩ := h; rfl
  obtain ⟨c, rfl, q⟩ := h
  refine ⟨_, (pss_cons (ps_set (i := 1) sc_u_law_mix.nd rfl (Or.inl rfl) (pe_op op_mod (pe_callTy call_int1 (by rfl) T.n_int boot_int (pa_cons (pv 0) pa_nil)) pe_int))
    (pss_cons (ps_set (i := 1) sc_u_law_mix.nd rfl (Or.inl rfl) (pe_op op_mod (pe_callTy call_int1 (by rfl) T.n_int boot_int (pa_cons (pe_op op_add (pe_op op_mul (pv 1) pe_int) pe_int) pa_nil)) pe_int))
    (pss_one (ps_ret (pe_op op_mod (pe_callTy call_int1 (by rfl) T.n_int boot_int (pa_cons (pe_op op_add (pe_op op_mul (pv 1) pe_int) pe_int) pa_nil)) pe_int))))), ?_⟩
  walk_at "rd"
  refine q _ (Int.emod_nonneg _ (by decide)) ?_
  show _ % _ < _
  omega

/-! _law_number -/
def sp_u_law_number : Sp := fun vs H Q _ => ∃ c : Int, vs = [.int c] ∧ ∀ r : Int, 0 ≤ r → Q (.int r) H
theorem ok_u_law_number (T : Tx K mg A) : FnOk P w K mg base CX0 (2) A.a_u_law_number A.d_u_law_number ["cell"] sp_u_law_number := by
  have G_u_law_mix := ok_u_law_mix (P := P) (w := w) (base := base) T
  refine T.F_u_law_number.ok sc_u_law_number (fun vs H Q E h => ?_) (fun cdv Ar outer s0 H vs Q E hr h => ?_)
  · obtain ⟨c, rfl, _⟩ := h; rfl
  obtain ⟨c, rfl, q⟩ := h
  refine ⟨_, (pss_cons (ps_if (pt_cmpR op_ge (pv 0) (pe_op op_pow pe_int pe_int) (nomark _)) (pss_one (ps_ret (pv 0))) pss_nil)
    (pss_cons (ps_set (i := 1) sc_u_law_number.nd rfl (Or.inl rfl) (pe_call G_u_law_mix (hr.mono (by omega)) rfl T.m_u_law_mix T.F_u_law_mix.kp T.b_u_law_mix .nil pass0 (pa_cons (pv 0) pa_nil)))
    (pss_one (ps_ret (pe_op op_add (pe_op op_mul (pv 1) pe_int) (pe_call G_u_law_mix (hr.mono (by omega)) rfl T.m_u_law_mix T.F_u_law_mix.kp T.b_u_law_mix .nil pass0 (pa_cons (pe_op op_add (pv 1) (pv 0)) pa_nil))))))), ?_⟩
  walk_at "rd"
  refine ite2 (fun e => ?_) (fun e => ?_)
  · walk_at "rd"
    have e := of_decide_eq_true e
    refine q _ (Int.le_trans ?_ e)
    decide
  · walk_at "rd"
    intro r1 r10 r11
    walk_at "rd"
    intro r2 r20 r21
    walk_at "rd"
    refine q _ ?_
    show 0 ≤ r1 * 2147483629 + r2
    omega

/-! _law_draw -/
def sp_u_law_draw : Sp := fun vs H Q _ => ∃ (s l : Addr) (m : Int), vs = [.ref s, .int m] ∧ St H s l ∧ 1 ≤ m ∧ m < 1073741824 ∧ ∀ r H', 0 ≤ r → r < m → But s H H' → St H' s l → Q (.int r) H'
theorem ok_u_law_draw (T : Tx K mg A) : FnOk P w K mg base CX0 (3) A.a_u_law_draw A.d_u_law_draw ["state", "many"] sp_u_law_draw := by
  have G_u_law_number := ok_u_law_number (P := P) (w := w) (base := base) T
  refine T.F_u_law_draw.ok sc_u_law_draw (fun vs H Q E h => ?_) (fun cdv Ar outer s0 H vs Q E hr h => ?_)
  · obtain ⟨s, l, m, rfl, _⟩ := h; rfl
  obtain ⟨s, l, m, rfl, hst, m1, m2, q⟩ := h
  refine ⟨_, (pss_cons (ps_if (PW.pt (pw_and (pt_cmpR op_lt (pe_ix (r := rIxL K) ix_list (pv 0) pe_int (fun _ _ => rfl)) (pv 1) (nomark _)) (pw_and1 (pt_cmpR op_lt (pe_ix (r := rIxL K) ix_list (pv 0) pe_int (fun _ _ => rfl)) (pe_callB (r := rLenS K) j_len (by rfl) T.n_len PySem.boot_len (pa_cons (pe_ix (r := rIxL K) ix_list (pv 0) pe_int (fun _ _ => rfl)) pa_nil)) (nomark _))))) (pss_cons (ps_asg (pe_call G_u_law_number (hr.mono (by omega)) rfl T.m_u_law_number T.F_u_law_number.kp T.b_u_law_number .nil pass0 (pa_cons (pe_ix (r := rIxL K) ix_list (pe_ix (r := rIxL K) ix_list (pv 0) pe_int (fun _ _ => rfl)) (pe_ix (r := rIxL K) ix_list (pv 0) pe_int (fun _ _ => rfl)) (fun _ _ => rfl)) pa_nil)) (pg_sub (pv 0) pe_int set_list))
    (pss_one (ps_asg (pe_op op_add (pe_ix (r := rIxL K) ix_list (pv 0) pe_int (fun _ _ => rfl)) pe_int) (pg_sub (pv 0) pe_int set_list)))) pss_nil)
    (pss_cons (ps_if (pt_cmpR op_eq (pe_ix (r := rIxL K) ix_list (pv 0) pe_int (fun _ _ => rfl)) pe_int (nomark _)) (pss_cons (ps_asg (pe_op op_mod (pe_callTy call_int1 (by rfl) T.n_int boot_int (pa_cons (pe_op op_add (pe_op op_mul (pe_ix (r := rIxL K) ix_list (pv 0) pe_int (fun _ _ => rfl)) pe_int) pe_int) pa_nil)) pe_int) (pg_sub (pv 0) pe_int set_list))
    (pss_one (ps_ret (pe_op op_modN (pe_callTy call_int1 (by rfl) T.n_int boot_int (pa_cons (pe_op op_fdiv (pe_ix (r := rIxL K) ix_list (pv 0) pe_int (fun _ _ => rfl)) pe_int) pa_nil)) (pv 1))))) pss_nil)
    (pss_cons (ps_set (i := 2) sc_u_law_draw.nd rfl (Or.inl rfl) (pe_op op_modN (pe_callTy call_int1 (by rfl) T.n_int boot_int (pa_cons (pe_ix (r := rIxL K) ix_list (pv 0) pe_int (fun _ _ => rfl)) pa_nil)) (pv 1)))
    (pss_cons (ps_asg (pe_op op_fdivN (pe_ix (r := rIxL K) ix_list (pv 0) pe_int (fun _ _ => rfl)) (pv 1)) (pg_sub (pv 0) pe_int set_list))
    (pss_one (ps_ret (pv 2))))))), ?_⟩
  obtain ⟨v, at0, sd, ns, h1, h2, a0, a1, v0, sd0, sd1, h63⟩ := hst
  have ls : l ≠ s := St.ne_list h1 h2
  refine seq_join (fun σ' H' => σ' = [some (.ref s), some (.int m), none] ∧ But s H H' ∧ ∃ v at0 sd : Int, H' s = some (.lst [.int v, .ref l, .int at0, .int sd]) ∧ H' l = some (.lst (ns.map V.int)) ∧ 0 ≤ at0 ∧ at0 ≤ (ns.length : Int) ∧ 0 ≤ v ∧ 0 ≤ sd ∧ sd < 2147483648) ?_ (fun N cont => ?_)
  · rintro σ' H' ⟨rfl, b1, v, at0, sd, h1, h2, a0, a1, v0, sd0, sd1⟩
    refine seq_join (fun σ' H'' => σ' = [some (.ref s), some (.int m), none] ∧ H'' = H') ?_ (fun N cont => ?_)
    · rintro σ' H'' ⟨rfl, rfl⟩
      walk_at "rd"
      refine q _ _ (fmod_0 m1) (fmod_lt m1) (b1.trans (but_upd _)) ⟨_, at0, sd, ns, upd_same, ?_, a0, a1, ?_, sd0, sd1, h63⟩
      · rw [upd_ne ls]; exact h2
      · exact Int.fdiv_nonneg v0 (by omega)
    · walk_at "rd"
      refine ite2 (fun e => ?_) (fun e => cont _ _ ⟨rfl, rfl⟩)
      walk_at "rd"
      refine q _ _ (fmod_0 m1) (fmod_lt m1) (b1.trans (but_upd _)) ⟨_, at0, _, ns, upd_same, ?_, a0, a1, v0, ?_, ?_, h63⟩
      · rw [upd_ne ls]; exact h2
      · exact Int.emod_nonneg _ (by decide)
      · show (sd * 48271 + 7) % 2147483647 < _
        omega
  · walk_at "rd"
    refine ite2 (fun e => ?_) (fun e => ?_)
    · walk_at "rd"
      refine ite2 (fun e => ?_) (fun e => ?_)
      · have e := of_decide_eq_true e
        rw [List.length_map] at e
        obtain ⟨n, gat⟩ := at_int a0 e
        walk_at "rd"
        intro r r0
        walk_at "rd"

        refine cont _ _ ⟨rfl, (but_upd _).trans (but_upd _), _, _, sd, upd_same, ?_, ?_, ?_, r0, sd0, sd1⟩
        · rw [upd_ne ls, upd_ne ls]; exact h2
        · show 0 ≤ at0 + 1
          omega
        · show at0 + 1 ≤ _
          omega
      · exact cont _ _ ⟨rfl, But.refl _ _, v, at0, sd, h1, h2, a0, a1, v0, sd0, sd1⟩
    · exact cont _ _ ⟨rfl, But.refl _ _, v, at0, sd, h1, h2, a0, a1, v0, sd0, sd1⟩

/-! _law_word -/
def sp_u_law_word : Sp := fun vs H Q _ => ∃ (s l : Addr) (m : Nat), vs = [.ref s, .int (m : Int)] ∧ St H s l ∧ m ≤ 1000 ∧ ∀ z H', But s H H' → St H' s l → z.length = m → Low z → Q (.str z) H'
theorem ok_u_law_word (T : Tx K mg A) : FnOk P w K mg base CX0 (4) A.a_u_law_word A.d_u_law_word ["state", "size"] sp_u_law_word := by
  have G_u_law_draw := ok_u_law_draw (P := P) (w := w) (base := base) T
  refine T.F_u_law_word.ok sc_u_law_word (fun vs H Q E h => ?_) (fun cdv Ar outer s0 H vs Q E hr h => ?_)
  · obtain ⟨s, l, m, rfl, _⟩ := h; rfl
  obtain ⟨s, l, m, rfl, hst, hm, q⟩ := h
  refine ⟨_, (pss_cons (ps_set (i := 2) sc_u_law_word.nd rfl (Or.inr rfl) pe_str)
    (pss_one (ps_ret (pe_join pe_str (pe_lc (own := [("k", 3)]) (by rfl) sc_u_law_word.nd (pi_range1 rfl T.n_range (pa_cons (pv 1) pa_nil)) (blkOk_by (own := [("k", 3)]) (N := ["state", "size", "letters", "k"]) (sc := defScope s_u_law_word) (by decide +kernel)) (fun _ _ _ _ _ => (pg_name (i := 3) sc_u_law_word.nd rfl (Or.inl rfl))) (fun _ _ _ _ _ => pts_nil) (fun _ _ _ _ _ => (pe_ix ix_str (pv 2) (pe_call G_u_law_draw (hr.mono (by omega)) rfl T.m_u_law_draw T.F_u_law_draw.kp T.b_u_law_draw .nil pass0 (pa_cons (pv 0) (pa_cons pe_int pa_nil))) (fun _ _ => rfl)))))))), ?_⟩
  refine ⟨⟨_, rfl⟩, ?_⟩
  walk_at "rd"
  refine ⟨by omega, by omega, fun D hD => ?_⟩
  obtain ⟨sD, lD⟩ := hst.free hD
  refine lc_range (lo := 0) (n := m) (fun i H' => ∃ zs : List Str, H' D = some (.lst (zs.map V.str)) ∧ zs.length = i ∧ (∀ z ∈ zs, z.length = 1 ∧ Low z) ∧ But s H H' ∧ St H' s l) ?_ ?_ ?_
  · exact ⟨[], upd_same, rfl, (fun z hz => nomatch hz), but_same (same_new hD _), hst.upd sD lD⟩
  · rintro i H1 hi ⟨zs, hD1, hl, hz, b1, st1⟩
    refine ⟨rfl, ?_⟩
    walk_at "rd"
    refine ⟨s, l, 26, rfl, st1, by decide, by decide, fun r H2 r0 r1 b2 st2 => ?_⟩
    refine ⟨_, _, _, rfl, rfl, by decide, abc_at r0 r1, ?_⟩
    have hD2 := b2 _ _ hD1 sD.symm
    refine ⟨_, hD2, ?_, zs ++ [⟨#[97 + r.toNat]⟩], ?_, ?_, ?_, (b1.trans b2).mut hD _, st2.upd sD lD⟩
    · rw [List.length_map]; exact Nat.lt_of_le_of_lt (show zs.length ≤ 1000 by omega) (by decide)
    · rw [upd_same, List.map_append]; rfl
    · rw [List.length_append, hl]; rfl
    · intro z hz'
      rcases List.mem_append.mp hz' with h | h
      · exact hz z h
      · rw [List.mem_singleton.mp h]
        exact ⟨rfl, low_one (by omega)⟩
  · rintro H1 ⟨zs, hD1, hl, hz, b1, st1⟩
    have j := join_low hz
    refine ⟨_, _, zs, rfl, rfl, .inl (SqL.of hD1), ?_, q _ _ b1 st1 (by rw [j.1, hl]) j.2⟩
    rw [sum_ones fun z h => (hz z h).1]
    show zs.length + zs.length * 0 ≤ _
    omega

/-! _law_names -/
def sp_u_law_names : Sp := fun vs H Q _ => ∃ (s l : Addr) (m : Nat), vs = [.ref s, .int (m : Int)] ∧ St H s l ∧ m ≤ 26 ∧ ∀ p fs H', But s H H' → St H' s l → H p = none → H' p = some (.lst (fs.map V.str)) → fs.length = m → Names fs → Q (.ref p) H'
theorem ok_u_law_names (T : Tx K mg A) : FnOk P w K mg base CX0 (5) A.a_u_law_names A.d_u_law_names ["state", "count"] sp_u_law_names := by
  have G_u_law_draw := ok_u_law_draw (P := P) (w := w) (base := base) T
  have G_u_law_word := ok_u_law_word (P := P) (w := w) (base := base) T
  refine T.F_u_law_names.ok sc_u_law_names (fun vs H Q E h => ?_) (fun cdv Ar outer s0 H vs Q E hr h => ?_)
  · obtain ⟨s, l, m, rfl, _⟩ := h; rfl
  obtain ⟨s, l, m, rfl, hst, hm, q⟩ := h
  refine ⟨_, (pss_cons (ps_set (i := 2) sc_u_law_names.nd rfl (Or.inr rfl) pe_str)
    (pss_cons (ps_set (i := 3) sc_u_law_names.nd rfl (Or.inr rfl) (pe_call G_u_law_word (hr.mono (by omega)) rfl T.m_u_law_word T.F_u_law_word.kp T.b_u_law_word .nil pass0 (pa_cons (pv 0) (pa_cons (pe_call G_u_law_draw (hr.mono (by omega)) rfl T.m_u_law_draw T.F_u_law_draw.kp T.b_u_law_draw .nil pass0 (pa_cons (pv 0) (pa_cons pe_int pa_nil))) pa_nil))))
    (pss_cons (ps_set (i := 4) sc_u_law_names.nd rfl (Or.inr rfl) (pe_call G_u_law_word (hr.mono (by omega)) rfl T.m_u_law_word T.F_u_law_word.kp T.b_u_law_word .nil pass0 (pa_cons (pv 0) (pa_cons (pe_call G_u_law_draw (hr.mono (by omega)) rfl T.m_u_law_draw T.F_u_law_draw.kp T.b_u_law_draw .nil pass0 (pa_cons (pv 0) (pa_cons pe_int pa_nil))) pa_nil))))
    (pss_cons (ps_set (i := 5) sc_u_law_names.nd rfl (Or.inr rfl) (pe_call G_u_law_draw (hr.mono (by omega)) rfl T.m_u_law_draw T.F_u_law_draw.kp T.b_u_law_draw .nil pass0 (pa_cons (pv 0) (pa_cons pe_int pa_nil))))
    (pss_one (ps_ret (pe_lc (own := [("k", 6)]) (by rfl) sc_u_law_names.nd (pi_range1 rfl T.n_range (pa_cons (pv 1) pa_nil)) (blkOk_by (own := [("k", 6)]) (N := ["state", "count", "letters", "before", "behind", "first", "k"]) (sc := defScope s_u_law_names) (by decide +kernel)) (fun _ _ _ _ _ => (pg_name (i := 6) sc_u_law_names.nd rfl (Or.inl rfl))) (fun _ _ _ _ _ => pts_nil) (fun _ _ _ _ _ => (pe_op op_add_str (pe_op op_add_str (pv 3) (pe_ix ix_str (pv 2) (pe_op op_mod (pe_callTy call_int1 (by rfl) T.n_int boot_int (pa_cons (pe_op op_add (pv 5) (pe_op op_mul pe_int (pv 6))) pa_nil)) pe_int) (fun _ _ => rfl))) (pv 4)))))))))), ?_⟩
  walk_at "rd"
  refine ⟨s, l, 4, rfl, hst, by decide, by decide, fun r1 H1 r10 r11 b1 st1 => ?_⟩
  obtain ⟨k1, rfl⟩ := Int.eq_ofNat_of_zero_le r10
  refine ⟨s, l, k1, rfl, st1, by omega, fun z1 H2 b2 st2 zl1 zw1 => ?_⟩
  walk_at "rd"
  refine ⟨s, l, 4, rfl, st2, by decide, by decide, fun r3 H3 r30 r31 b3 st3 => ?_⟩
  obtain ⟨k3, rfl⟩ := Int.eq_ofNat_of_zero_le r30
  refine ⟨s, l, k3, rfl, st3, by omega, fun z4 H4 b4 st4 zl4 zw4 => ?_⟩
  walk_at "rd"
  refine ⟨s, l, 26, rfl, st4, by decide, by decide, fun r5 H5 r50 r51 b5 st5 => ?_⟩
  obtain ⟨f, rfl⟩ := Int.eq_ofNat_of_zero_le r50
  walk_at "rd"
  refine ⟨by omega, by omega, fun D hD => ?_⟩
  have bb := b1.trans (b2.trans (b3.trans (b4.trans b5)))
  obtain ⟨sD, lD⟩ := st5.free hD
  have hD0 : H D = none := by
    cases e : H D with
    | none => rfl
    | some o =>
      have := bb _ _ e sD.symm
      rw [hD] at this; cases this
  refine lc_range (lo := 0) (n := m) (fun i H' => H' D = some (.lst (((List.range i).map (nameAt z1 z4 f)).map V.str)) ∧ But s H5 H' ∧ St H' s l) ?_ ?_ ?_
  · exact ⟨upd_same, but_same (same_new hD _), st5.upd sD lD⟩
  · rintro i H6 hi ⟨hD6, b6, st6⟩
    refine ⟨rfl, ?_⟩
    walk_at "rd"
    have e : ((f : Int) + 3 * (0 + (i : Int))) % 26 = (((f + 3 * i) % 26 : Nat) : Int) := by omega
    refine ⟨_, _, 97 + (f + 3 * i) % 26, rfl, rfl, by decide, ?_, ?_⟩
    · show atI _ (((f : Int) + 3 * (0 + (i : Int))) % 26) = _
      rw [e]
      exact atI_nat (abc _ (Nat.mod_lt _ (by decide)))
    refine ⟨_, _, rfl, rfl, ?_, ?_⟩
    · show z1.length + 1 ≤ _
      exact Nat.le_trans (show z1.length + 1 ≤ 4 by omega) (by decide)
    walk_at "rd"
    refine ⟨?_, ?_⟩
    · rw [len_app]
      show z1.length + 1 + z4.length ≤ _
      exact Nat.le_trans (show z1.length + 1 + z4.length ≤ 10 by omega) (by decide)
    refine ⟨_, hD6, ?_, ?_, b6.mut hD _, st6.upd sD lD⟩
    · rw [List.length_map, List.length_map, List.length_range]; exact Nat.lt_of_le_of_lt (show i ≤ 26 by omega) (by decide)
    · rw [upd_same, List.range_succ, List.map_append, List.map_append]; rfl
  · rintro H6 ⟨hD6, b6, st6⟩
    refine q D _ H6 (bb.trans b6) st6 hD0 hD6 ?_ (names_ok zw1 zw4 (by omega) (by omega) hm)
    rw [List.length_map, List.length_range]

/-! _law_operations -/
def sp_u_law_operations : Sp := fun vs H Q _ => ∃ (s l : Addr), vs = [.ref s] ∧ St H s l ∧ ∀ o fs H', But s H H' → St H' s l → H o = none → Ops H' o fs → Q (.ref o) H'
theorem ok_u_law_operations (T : Tx K mg A) : FnOk P w K mg base CX0 (6) A.a_u_law_operations A.d_u_law_operations ["state"] sp_u_law_operations := by
  have G_u_law_draw := ok_u_law_draw (P := P) (w := w) (base := base) T
  have G_u_law_names := ok_u_law_names (P := P) (w := w) (base := base) T
  refine T.F_u_law_operations.ok sc_u_law_operations (fun vs H Q E h => ?_) (fun cdv Ar outer s0 H vs Q E hr h => ?_)
  · obtain ⟨s, l, rfl, _⟩ := h; rfl
  obtain ⟨s, l, rfl, hst, q⟩ := h
  refine ⟨_, (pss_cons (ps_set (i := 1) sc_u_law_operations.nd rfl (Or.inr rfl) (pe_call G_u_law_names (hr.mono (by omega)) rfl T.m_u_law_names T.F_u_law_names.kp T.b_u_law_names .nil pass0 (pa_cons (pv 0) (pa_cons pe_int pa_nil))))
    (pss_cons (ps_set (i := 2) sc_u_law_operations.nd rfl (Or.inr rfl) (pe_lst (pa_cons pe_int (pa_cons pe_int (pa_cons pe_int (pa_cons pe_int (pa_cons pe_int pa_nil)))))))
    (pss_one (ps_ret (pe_lc (own := [("k", 3)]) (by rfl) sc_u_law_operations.nd (pi_range1 rfl T.n_range (pa_cons (pe_op op_add pe_int (pe_call G_u_law_draw (hr.mono (by omega)) rfl T.m_u_law_draw T.F_u_law_draw.kp T.b_u_law_draw .nil pass0 (pa_cons (pv 0) (pa_cons pe_int pa_nil)))) pa_nil)) (blkOk_by (own := [("k", 3)]) (N := ["state", "names", "arities", "k"]) (sc := defScope s_u_law_operations) (by decide +kernel)) (fun _ _ _ _ _ => (pg_name (i := 3) sc_u_law_operations.nd rfl (Or.inl rfl))) (fun _ _ _ _ _ => pts_nil) (fun _ _ _ _ _ => (pe_tup (pa_cons (pe_ix (r := rIxL K) ix_list (pv 1) (pv 3) (fun _ _ => rfl)) (pa_cons (pe_ix (r := rIxL K) ix_list (pv 2) (pv 3) (fun _ _ => rfl)) pa_nil))))))))), ?_⟩
  walk_at "rd"
  refine ⟨s, l, 5, rfl, hst, by decide, fun p fs H1 b1 st1 np hp hl hn => ?_⟩
  walk_at "rd"
  refine ⟨by show 5 ≤ sizeLine; decide, ?_⟩
  first | intro ra n2 | refine fun ra n2 => ?_
  generalize ehn : upd H1 ra _ = H2
  have s2 := J.al_same n2 ehn
  have h2 := J.al_at ehn
  clear ehn
  walk_at "rd"
  have st2 := st1.same s2
  refine ⟨s, l, 2, rfl, st2, by decide, by decide, fun r H3 r0 r1 b3 st3 => ?_⟩
  obtain ⟨n, rfl⟩ := Int.eq_ofNat_of_zero_le r0
  walk_at "rd"
  refine ⟨by omega, by omega, fun D hD => ?_⟩
  obtain ⟨sD, lD⟩ := st3.free hD
  have bb := b1.trans ((but_same s2).trans b3)
  have hD0 : H D = none := by
    cases e : H D with
    | none => rfl
    | some o =>
      have := bb _ _ e sD.symm
      rw [hD] at this; cases this
  have nra : ra ≠ s := (st1.free n2).1.symm
  have hp3 : H3 p = some (.lst (fs.map V.str)) := b3 _ _ (s2 _ _ hp) fun z => by
    rw [z] at np
    exact (hst.free np).1 rfl
  have hra3 := b3 _ _ h2 nra
  refine lc_range (lo := 0) (n := 4 + n) (fun i H' => ∃ as : List Addr, H' D = some (.lst (as.map V.ref)) ∧ as.length = i ∧ Same H3 H' ∧ ∀ (k : Nat) (f : Str) (a : Addr), fs[k]? = some f → as[k]? = some a → H' a = some (.tup [.str f, .int (ar k)])) ?_ ?_ ?_
  · exact ⟨[], upd_same, rfl, same_new hD _, fun k f a _ e => by simp at e⟩
  · rintro i H6 hi ⟨as, hD6, hl6, s6, ht⟩
    refine ⟨rfl, ?_⟩
    have hi5 : i < fs.length := by omega
    have gf : (fs.map V.str)[i]? = some (.str fs[i]) := by rw [List.getElem?_map, List.getElem?_eq_getElem hi5]; rfl
    have e0 : (0 : Int) + (i : Int) = (i : Int) := by omega
    walk_at "rd"
    refine ⟨p, _, _, _, rfl, rfl, SqL.of (s6 _ _ hp3), by rw [e0]; exact atI_nat gf, ?_⟩
    walk_at "rd"
    have ga : ([.int 0, .int 0, .int 1, .int 2, .int 3] : List V)[i]? = some (.int (ar i)) := by
      match i, hi5, hl with
      | 0, _, _ => rfl
      | 1, _, _ => rfl
      | 2, _, _ => rfl
      | 3, _, _ => rfl
      | 4, _, _ => rfl
      | j + 5, h5, hl => omega
    refine ⟨ra, _, _, _, rfl, rfl, SqL.of (s6 _ _ hra3), by rw [e0]; exact atI_nat ga, ?_⟩
    walk_at "rd"
    refine ⟨by show 2 ≤ sizeLine; decide, ?_⟩
    first | intro t n7 | refine fun t n7 => ?_
    generalize ehn : upd H6 t _ = H7
    have s7 := J.al_same n7 ehn
    have h7 := J.al_at ehn
    clear ehn
    refine ⟨_, s7 _ _ hD6, ?_, as ++ [t], ?_, ?_, ?_, ?_⟩
    · rw [List.length_map]; exact Nat.lt_of_le_of_lt (show as.length ≤ 5 by omega) (by decide)
    · rw [upd_same, List.map_append]; rfl
    · rw [List.length_append, hl6]; rfl
    · exact same_mut (s6.trans s7) hD _
    · intro k f a hf ha
      have ntD : ∀ b xs, H7 b = some (.tup xs) → b ≠ D := fun b xs e z => by
        rw [z, s7 _ _ hD6] at e; cases e
      by_cases hk : k < as.length
      · rw [List.getElem?_append_left hk] at ha
        have q := s7 _ _ (ht k f a hf ha)
        rw [upd_ne (ntD _ _ q)]; exact q
      · have ek : k = i := by
          have := (List.getElem?_eq_some_iff.mp ha).1
          rw [List.length_append, List.length_singleton] at this
          omega
        subst ek
        rw [List.getElem?_append_right (by omega), hl6, Nat.sub_self] at ha
        have ea : t = a := by simpa using ha
        subst ea
        rw [List.getElem?_eq_getElem hi5] at hf
        injection hf with hf
        subst hf
        rw [upd_ne (ntD _ _ h7)]; exact h7
  · rintro H6 ⟨as, hD6, hl6, s6, ht⟩
    have hn' : Names (fs.take (4 + n)) := ⟨fun f h => hn.low f (List.mem_of_mem_take h), fun f h => hn.lo f (List.mem_of_mem_take h), fun f h => hn.hi f (List.mem_of_mem_take h), hn.nd.sublist (List.take_sublist _ _)⟩
    have hl' : (fs.take (4 + n)).length = 4 + n := by rw [List.length_take, hl]; omega
    refine q D (fs.take (4 + n)) H6 (bb.trans (but_same s6)) (st3.same s6) hD0 ⟨hn', by omega, as, hD6, by omega, fun k f a hf ha => ?_⟩
    have hk : k < 4 + n := by
      have := (List.getElem?_eq_some_iff.mp ha).1
      omega
    rw [List.getElem?_take_of_lt hk] at hf
    exact ht k f a hf ha

/-! _law_leaf -/
def sp_u_law_leaf : Sp := fun vs H Q _ => ∃ (s l o : Addr) (fs : List Str) (B : Int), vs = [.ref s, .ref o, .int B] ∧ St H s l ∧ Ops H o fs ∧ 0 ≤ B ∧ B < 1073741824 ∧ ∀ v t H', But s H H' → St H' s l → TmIn H' t v → t.wf fs B → t.dep ≤ 1 → t.sz = 1 → Q v H'
theorem ok_u_law_leaf (T : Tx K mg A) : FnOk P w K mg base CX0 (4) A.a_u_law_leaf A.d_u_law_leaf ["state", "operations", "count"] sp_u_law_leaf := by
  have G_u_law_draw := ok_u_law_draw (P := P) (w := w) (base := base) T
  refine T.F_u_law_leaf.ok sc_u_law_leaf (fun vs H Q E h => ?_) (fun cdv Ar outer s0 H vs Q E hr h => ?_)
  · obtain ⟨s, l, o, fs, B, rfl, _⟩ := h; rfl
  obtain ⟨s, l, o, fs, B, rfl, hst, hop, B0, B1, q⟩ := h
  refine ⟨_, (pss_cons (ps_if (PW.pt (pw_and (pt_cmpR op_gt (pv 2) pe_int (nomark _)) (pw_and1 (pt_cmpR op_eq (pe_call G_u_law_draw (hr.mono (by omega)) rfl T.m_u_law_draw T.F_u_law_draw.kp T.b_u_law_draw .nil pass0 (pa_cons (pv 0) (pa_cons pe_int pa_nil))) pe_int (nomark _))))) (pss_one (ps_ret (pe_call G_u_law_draw (hr.mono (by omega)) rfl T.m_u_law_draw T.F_u_law_draw.kp T.b_u_law_draw .nil pass0 (pa_cons (pv 0) (pa_cons (pv 2) pa_nil))))) pss_nil)
    (pss_one (ps_ret (pe_tup (pa_cons (pe_ix (r := rIxT K) ix_tup (pe_ix (r := rIxL K) ix_list (pv 1) (pe_call G_u_law_draw (hr.mono (by omega)) rfl T.m_u_law_draw T.F_u_law_draw.kp T.b_u_law_draw .nil pass0 (pa_cons (pv 0) (pa_cons pe_int pa_nil))) (fun _ _ => rfl)) pe_int (fun _ _ => rfl)) pa_nil))))), ?_⟩
  refine seq_join (fun σ' H' => σ' = [some (.ref s), some (.ref o), some (.int B)] ∧ But s H H' ∧ St H' s l) ?_ (fun N cont => ?_)
  · rintro σ' H1 ⟨rfl, b1, st1⟩
    have op1 := hop.but hst b1
    walk_at "rd"
    refine ⟨s, l, 2, rfl, st1, by decide, by decide, fun r H2 r0 r1 b2 st2 => ?_⟩
    have op2 := op1.but st1 b2
    obtain ⟨n, rfl⟩ := Int.eq_ofNat_of_zero_le r0
    obtain ⟨xs, a, f, ho, hl, hx, hf, ha⟩ := op2.get (k := n) (by have := op2.2.1; omega)
    refine ⟨o, _, _, _, rfl, rfl, SqL.of ho, atI_nat hx, ?_⟩
    walk_at "rd"
    refine ⟨by show 1 ≤ sizeLine; decide, ?_⟩
    first | intro p n3 | refine fun p n3 => ?_
    generalize ehn : upd H2 p _ = H3
    have s3 := J.al_same n3 ehn
    have h3 := J.al_at ehn
    clear ehn
    refine q (.ref p) (.app f []) H3 (b1.trans (b2.trans (but_same s3))) (st2.same s3) ⟨p, [], rfl, h3, rfl⟩ ⟨⟨n, hf, ?_⟩, trivial⟩ (Nat.le_refl _) rfl
    show 0 = ar n
    unfold ar
    rw [if_pos (by omega)]
  · walk_at "rd"
    refine ite2 (fun e => ?_) (fun e => ?_)
    · have e := of_decide_eq_true e
      walk_at "rd"
      refine ⟨s, l, 2, rfl, hst, by decide, by decide, fun r H2 r0 r1 b2 st2 => ?_⟩
      walk_at "rd"
      refine ite2 (fun e2 => ?_) (fun e2 => ?_)
      · walk_at "rd"
        refine ⟨s, l, B, rfl, st2, by omega, B1, fun r3 H3 r30 r31 b3 st3 => ?_⟩
        exact q _ (.var r3) H3 (b2.trans b3) st3 rfl ⟨r30, r31⟩ (Nat.le_refl _) rfl
      · exact cont _ _ ⟨rfl, b2, st2⟩
    · exact cont _ _ ⟨rfl, But.refl _ _, hst⟩

/-! _law_term -/
def sp_u_law_term (N : Nat) : Sp := fun vs H Q _ => ∃ (s l o : Addr) (fs : List Str) (B : Int) (h : Nat), h < N ∧ vs = [.ref s, .ref o, .int B, .int (h : Int)] ∧ St H s l ∧ Ops H o fs ∧ 0 ≤ B ∧ B < 1073741824 ∧
  ∀ v t H', But s H H' → St H' s l → TmIn H' t v → t.wf fs B → t.dep ≤ h + 1 → 2 * t.sz + 1 ≤ 3 ^ (h + 1) → Q v H'
theorem st_u_law_term (T : Tx K mg A) (N : Nat) (G_u_law_term : FnOk P w K mg base CX0 (N + 5) A.a_u_law_term A.d_u_law_term ["state", "operations", "count", "height"] (sp_u_law_term N)) : FnOk P w K mg base CX0 (N + 6) A.a_u_law_term A.d_u_law_term ["state", "operations", "count", "height"] (sp_u_law_term (N + 1)) := by
  have G_u_law_draw := ok_u_law_draw (P := P) (w := w) (base := base) T
  have G_u_law_leaf := ok_u_law_leaf (P := P) (w := w) (base := base) T
  refine T.F_u_law_term.ok sc_u_law_term (fun vs H Q E h => ?_) (fun cdv Ar outer s0 H vs Q E hr h => ?_)
  · obtain ⟨s, l, o, fs, B, h, hN, rfl, _⟩ := h; rfl
  obtain ⟨s, l, o, fs, B, h, hN, rfl, hst, hop, B0, B1, q⟩ := h
  refine ⟨_, (pss_cons (ps_if (PW.pt (pw_or (pt_cmpR op_eq (pv 3) pe_int (nomark _)) (pw_or1 (pt_cmpR op_eq (pe_call G_u_law_draw (hr.mono (by omega)) rfl T.m_u_law_draw T.F_u_law_draw.kp T.b_u_law_draw .nil pass0 (pa_cons (pv 0) (pa_cons pe_int pa_nil))) pe_int (nomark _))))) (pss_one (ps_ret (pe_call G_u_law_leaf (hr.mono (by omega)) rfl T.m_u_law_leaf T.F_u_law_leaf.kp T.b_u_law_leaf .nil pass0 (pa_cons (pv 0) (pa_cons (pv 1) (pa_cons (pv 2) pa_nil)))))) pss_nil)
    (pss_cons (ps_asg (pe_ix (r := rIxL K) ix_list (pv 1) (pe_op op_add pe_int (pe_call G_u_law_draw (hr.mono (by omega)) rfl T.m_u_law_draw T.F_u_law_draw.kp T.b_u_law_draw .nil pass0 (pa_cons (pv 0) (pa_cons (pe_op op_sub (pe_callB (r := rLenS K) j_len (by rfl) T.n_len PySem.boot_len (pa_cons (pv 1) pa_nil)) pe_int) pa_nil)))) (fun _ _ => rfl)) (pg_tup (by rfl) (pgs_cons (pg_name (i := 4) sc_u_law_term.nd rfl (Or.inl rfl)) (pgs_cons (pg_name (i := 5) sc_u_law_term.nd rfl (Or.inl rfl)) pgs_nil))))
    (pss_cons (ps_set (i := 6) sc_u_law_term.nd rfl (Or.inl rfl) (pe_tup (pa_cons (pv 4) pa_nil)))
    (pss_cons (ps_for PassesOwn.never rfl (pi_range1 rfl T.n_range (pa_cons (pv 5) pa_nil)) (pg_name (i := 7) sc_u_law_term.nd rfl (Or.inl rfl)) (pss_one (ps_set (i := 6) sc_u_law_term.nd rfl (Or.inl rfl) (pe_op (r := rCatT K) op_catT (pv 6) (pe_tup (pa_cons (pe_call G_u_law_term (hr.mono (by omega)) rfl T.m_u_law_term T.F_u_law_term.kp T.b_u_law_term .nil pass0 (pa_cons (pv 0) (pa_cons (pv 1) (pa_cons (pv 2) (pa_cons (pe_op op_sub (pv 3) pe_int) pa_nil))))) pa_nil))))))
    (pss_one (ps_ret (pv 6))))))), ?_⟩
  refine seq_join (fun σ' H' => σ' = [some (.ref s), some (.ref o), some (.int B), some (.int (h : Int)), none, none, none, none] ∧ But s H H' ∧ St H' s l ∧ 1 ≤ h) ?_ (fun N' cont => ?_)
  · rintro σ' H1 ⟨rfl, b1, st1, h1⟩
    have op1 := hop.but hst b1
    have hfl := op1.2.1
    obtain ⟨xs1, _, _, ho1, hxl, _⟩ := op1.get (k := 0) (by omega)
    walk_at "rd"
    refine ⟨s, l, _, rfl, st1, by show (1 : Int) ≤ (xs1.length : Int) - 2; omega, by show (xs1.length : Int) - 2 < _; omega, fun r H2 r0 r1 b2 st2 => ?_⟩
    have r1 : r < (xs1.length : Int) - 2 := r1
    have op2 := op1.but st1 b2
    obtain ⟨n, rfl⟩ := Int.eq_ofNat_of_zero_le r0
    obtain ⟨xs, a, f, ho, hl, hx, hf, ha⟩ := op2.get (k := n + 2) (by omega)
    have e2 : (2 : Int) + (n : Int) = ((n + 2 : Nat) : Int) := by omega
    refine ⟨_, _, rfl, rfl, ?_⟩
    refine ⟨o, _, _, _, rfl, rfl, SqL.of ho, by rw [e2]; exact atI_nat hx, ?_⟩
    refine ⟨a, _, rfl, SqT.of ha, rfl, _, _, rfl, _, _, rfl, rfl, ?_⟩
    walk_at "rd"
    refine ⟨by show 1 ≤ sizeLine; decide, ?_⟩
    first | intro p n3 | refine fun p n3 => ?_
    generalize ehn : upd H2 p _ = H3
    have s3 := J.al_same n3 ehn
    have h3 := J.al_at ehn
    clear ehn
    have har : ar (n + 2) = n + 1 := by unfold ar; rw [if_neg (by omega)]; rfl
    have st3 := st2.same s3
    have op3 := op2.same s3
    walk_at "rd"
    refine ⟨by omega, by omega, for_range (lo := 0) (n := ar (n + 2)) (fun i σ' H' => ∃ p ts vs x, σ' = [some (.ref s), some (.ref o), some (.int B), some (.int (h : Int)), some (.str f), some (.int (ar (n + 2) : Int)), some (.ref p), x] ∧ H' p = some (.tup (.str f :: vs)) ∧ TmsIn H' ts vs ∧ ts.length = i ∧ (∀ t ∈ ts, t.wf fs B ∧ t.dep ≤ h ∧ 2 * t.sz + 1 ≤ 3 ^ h) ∧ But s H3 H' ∧ St H' s l) ?_ ?_ ?_⟩
    · exact ⟨p, [], [], none, rfl, h3, rfl, rfl, (fun t ht => nomatch ht), But.refl _ _, st3⟩
    · rintro i σ' H4 hi ⟨p, ts, vs, x, rfl, hp, hts, hl', hw, b4, st4⟩
      walk_at "rd"
      refine ⟨s, l, o, fs, B, h - 1, by omega, by have e : ((h - 1 : Nat) : Int) = (h : Int) - 1 := by omega
                                                  rw [e]; rfl, st4, op3.but st3 b4, B0, B1, fun v t H5 b5 st5 ht htw htd hts' => ?_⟩
      refine ⟨by show 1 ≤ sizeLine; decide, ?_⟩
      first | intro u n6 | refine fun u n6 => ?_
      generalize ehn : upd H5 u _ = H6
      have s6 := J.al_same n6 ehn
      have h6 := J.al_at ehn
      clear ehn
      have tu45 := st4.tu b5
      have hlen : vs.length = i := by rw [hts.length, hl']
      refine ⟨p, u, _, _, rfl, rfl, SqT.of (s6 _ _ (tu45 _ _ hp)), SqT.of h6, List.cons_ne_nil _ _, ?_, fun z => absurd z (List.cons_ne_nil _ _), fun _ => ?_⟩
      · rw [List.length_cons, hlen]
        exact Nat.le_trans (show i + 1 + 1 ≤ 10 by omega) (by decide)
      first | intro y n7 | refine fun y n7 => ?_
      generalize ehn : upd H6 y _ = H7
      have s7 := J.al_same n7 ehn
      have h7 := J.al_at ehn
      clear ehn
      have tu67 : Tu H4 H7 := tu45.trans ((tu_same s6).trans (tu_same s7))
      refine ⟨y, ts ++ [t], vs ++ [v], _, rfl, h7, (hts.tu tu67).append (TmsIn.one ((ht.tu (tu_same s6)).tu (tu_same s7))), ?_, ?_, b4.trans (b5.trans ((but_same s6).trans (but_same s7))), (st5.same s6).same s7⟩
      · rw [List.length_append, hl']; rfl
      · intro t' ht'
        rcases List.mem_append.mp ht' with z | z
        · exact hw t' z
        · rw [List.mem_singleton.mp z]
          rw [show h - 1 + 1 = h by omega] at hts' htd
          exact ⟨htw, htd, hts'⟩
    · rintro σ' H4 ⟨p, ts, vs, x, rfl, hp, hts, hl', hw, b4, st4⟩
      walk_at "rd"
      refine q (.ref p) (.app f ts) H4 (b1.trans (b2.trans ((but_same s3).trans b4))) st4 ⟨p, vs, rfl, hp, hts⟩ ⟨⟨n + 2, hf, hl'⟩, Tm.wfs_of fun t ht => (hw t ht).1⟩ ?_ ?_
      · have := Tm.deps_le fun t ht => (hw t ht).2.1
        show 1 + Tm.deps ts ≤ h + 1
        omega
      · exact Tm.szs_three (by omega) fun t ht => (hw t ht).2.2
  · walk_at "rd"
    refine ite2 (fun e => ?_) (fun e => ?_)
    · walk_at "rd"
      refine ⟨s, l, o, fs, B, rfl, hst, hop, B0, B1, fun v t H1 b1 st1 ht hw hd hz => q v t H1 b1 st1 ht hw (by omega) (by rw [hz]; exact Nat.pow_le_pow_right (by decide : 3 > 0) (show 1 ≤ h + 1 by omega))⟩
    · have e : ¬ V.int (h : Int) = V.int 0 := fun z => e (decide_eq_true z)
      have h1 : 1 ≤ h := by
        rcases Nat.eq_zero_or_pos h with z | z
        · rw [z] at e; exact absurd rfl e
        · exact z
      walk_at "rd"
      refine ⟨s, l, 4, rfl, hst, by decide, by decide, fun r H2 r0 r1 b2 st2 => ?_⟩
      walk_at "rd"
      refine ite2 (fun e => ?_) (fun e => ?_)
      · walk_at "rd"
        refine ⟨s, l, o, fs, B, rfl, st2, hop.but hst b2, B0, B1, fun v t H1 b1 st1 ht hw hd hz => q v t H1 (b2.trans b1) st1 ht hw (by omega) (by rw [hz]; exact Nat.pow_le_pow_right (by decide : 3 > 0) (show 1 ≤ h + 1 by omega))⟩
      · exact cont _ _ ⟨rfl, b2, st2, h1⟩

theorem all_u_law_term (T : Tx K mg A) : ∀ N : Nat, FnOk P w K mg base CX0 (N + 5) A.a_u_law_term A.d_u_law_term ["state", "operations", "count", "height"] (sp_u_law_term N)
  | 0 => fn_none fun vs H Q E h => by obtain ⟨s, l, o, fs, B, h, hN, _⟩ := h; omega
  | N + 1 => st_u_law_term T N (all_u_law_term T N)
theorem ok_u_law_term (T : Tx K mg A) : FnOk P w K mg base CX0 10 A.a_u_law_term A.d_u_law_term ["state", "operations", "count", "height"] (sp_u_law_term 5) := all_u_law_term T 5

/-! _law_values -/
def sp_u_law_values : Sp := fun vs H Q _ => ∃ (s l o : Addr) (fs : List Str) (c : Nat) (B : Int), vs = [.ref s, .ref o, .int (c : Int), .int B] ∧ St H s l ∧ Ops H o fs ∧ c ≤ 10 ∧ 0 ≤ B ∧ B ≤ 1000 ∧
  ∀ d kvs tb H', But s H H' → St H' s l → H d = none → H' d = some (.dK kvs) → TbIn H' kvs tb → (∀ x ∈ tb, (0 ≤ x.1 ∧ x.1 < (c : Int)) ∧ x.2.wf fs B ∧ x.2.sz ≤ 13 ∧ x.2.dep ≤ 3) → (∀ n : Nat, n < c → look tb (n : Int) ≠ none) → Q (.ref d) H'
theorem ok_u_law_values (T : Tx K mg A) : FnOk P w K mg base CX0 (11) A.a_u_law_values A.d_u_law_values ["state", "operations", "count", "inner"] sp_u_law_values := by
  have G_u_law_term := ok_u_law_term (P := P) (w := w) (base := base) T
  refine T.F_u_law_values.ok sc_u_law_values (fun vs H Q E h => ?_) (fun cdv Ar outer s0 H vs Q E hr h => ?_)
  · obtain ⟨s, l, o, fs, c, B, rfl, _⟩ := h; rfl
  obtain ⟨s, l, o, fs, c, B, rfl, st, op, c10, B0, B1, q⟩ := h
  refine ⟨_, (pss_cons (ps_set (i := 4) sc_u_law_values.nd rfl (Or.inl rfl) pe_dnewK)
    (pss_cons (ps_for PassesOwn.never rfl (pi_range1 rfl T.n_range (pa_cons (pv 2) pa_nil)) (pg_name (i := 5) sc_u_law_values.nd rfl (Or.inl rfl)) (pss_one (ps_dput (hu_of hr) (pv 4) (pv 5) (pe_call G_u_law_term (hr.mono (by omega)) rfl T.m_u_law_term T.F_u_law_term.kp T.b_u_law_term .nil pass0 (pa_cons (pv 0) (pa_cons (pv 1) (pa_cons (pv 3) (pa_cons pe_int pa_nil))))) rfl)))
    (pss_one (ps_ret (pv 4))))), ?_⟩
  dsimp only [tSeq, tAsg, tC, gName]
  first | intro d n1 | refine fun d n1 => ?_
  generalize ehn : upd H d _ = H1
  have s1 := J.al_same n1 ehn
  have h1 := J.al_at ehn
  clear ehn
  have st1 := st.same s1
  have op1 := op.same s1
  have sd : s ≠ d := (st.free n1).1
  have ld : l ≠ d := (st.free n1).2
  have od : o ≠ d := fun z => by obtain ⟨_, _, as, e0, _⟩ := op; rw [z, n1] at e0; cases e0
  have os := op1.ne st1
  walk_at "rd"
  refine ⟨by omega, by omega, for_range (lo := 0) (n := c) (fun i σ' H' => ∃ (x : Option V) (kvs : List (Key × V)) (tb : List (Int × Tm)), σ' = [some (.ref s), some (.ref o), some (.int (c : Int)), some (.int B), some (.ref d), x] ∧
    H' d = some (.dK kvs) ∧ TbIn H' kvs tb ∧ (∀ y ∈ tb, (0 ≤ y.1 ∧ y.1 < (i : Int)) ∧ y.2.wf fs B ∧ y.2.sz ≤ 13 ∧ y.2.dep ≤ 3) ∧ (∀ n : Nat, n < i → look tb (n : Int) ≠ none) ∧ tb.length ≤ i ∧ St H' s l ∧ (∀ c ob, H1 c = some ob → c ≠ s → c ≠ d → H' c = some ob)) ?_ ?_ ?_⟩
  · exact ⟨none, [], [], rfl, h1, trivial, (fun y hy => nomatch hy), (fun n hn => absurd hn (Nat.not_lt_zero _)), Nat.le_refl _, st1, fun c ob e _ _ => e⟩
  · rintro i σ' H' hi ⟨x, kvs, tb, rfl, hd, htb, hy, hk, hlen, st', f⟩
    have kl := htb.length
    have tuf : Tu H1 H' := fun c xs e => f c _ e (st1.ne_tup e) fun z => by rw [z, h1] at e; cases e
    have op' : Ops H' o fs := by
      obtain ⟨n1, hl, as, h1, h2, h3⟩ := op1
      exact ⟨n1, hl, as, f _ _ h1 os od, h2, fun k f' a e e' => tuf _ _ (h3 k f' a e e')⟩
    walk_at "rd"
    refine ⟨s, l, o, fs, B, 2, by omega, rfl, st', op', B0, by omega, fun wv W H2 b2 st2 hW wW dW zW => ?_⟩
    have zW : W.sz ≤ 13 := by have e : (3 : Nat) ^ (2 + 1) = 27 := rfl; omega
    have dW : W.dep ≤ 3 := dW
    have hd2 := b2 _ _ hd fun z => sd z.symm
    have htb2 := htb.tu (st'.tu b2)
    have e0 : (0 : Int) + (i : Int) = (i : Int) := by omega
    have hnew : look tb (i : Int) = none := look_none fun w hw z => by have := (hy w hw).1; omega
    have hnew' : valV kvs (Sum.inl (i : Int) : Key) = none := by
      have := htb.val (i : Int)
      rw [hnew] at this
      exact this
    walk_at "rd"
    refine ⟨d, _, rfl, DPut.k (k := Sum.inl (0 + (i : Int))) hd2 (Nat.lt_of_le_of_lt (show kvs.length ≤ 100 by omega) (by decide)), ?_⟩
    rw [e0, putK_new _ hnew']
    generalize ehn : upd H2 d _ = H3
    have b3 := J.al_but ehn
    have h3 := J.al_at ehn
    clear ehn
    have tu3 : Tu H2 H3 := fun a xs e => b3 _ _ e fun z => by rw [z, hd2] at e; cases e
    refine ⟨_, _, tb ++ [((i : Int), W)], rfl, h3, (htb2.tu tu3).snoc (hW.tu tu3), fun y hy' => ?_, fun n hn => ?_, by rw [List.length_append]; show tb.length + 1 ≤ i + 1; omega, st2.but b3 sd ld, fun c ob e n1 n2 => b3 c ob (b2 c ob (f c ob e n1 n2) n1) n2⟩
    · rcases List.mem_append.mp hy' with z | z
      · have := hy y z
        exact ⟨by omega, this.2⟩
      · rw [List.mem_singleton.mp z]
        exact ⟨⟨by show (0 : Int) ≤ (i : Int); omega, by show (i : Int) < ((i + 1 : Nat) : Int); omega⟩, wW, zW, dW⟩
    · rw [look_app]
      by_cases z : n < i
      · cases e : look tb (n : Int) with
        | none => exact absurd e (hk n z)
        | some u => exact fun w => nomatch w
      · have e : n = i := by omega
        subst e
        rw [hnew]
        show (if ((n : Int) = (n : Int)) then some W else _) ≠ none
        rw [if_pos rfl]
        exact fun w => nomatch w
  · rintro σ' H' ⟨x, kvs, tb, rfl, hd, htb, hy, hk, hlen, st', f⟩
    walk_at "rd"
    refine q d kvs tb H' (fun c ob e ne => f c ob (s1 _ _ e) ne fun z => by rw [z, n1] at e; cases e) st' n1 hd htb hy hk

/-! _law_substitute -/
def sp_u_law_substitute (N : Nat) : Sp := fun vs H Q _ => ∃ (v : V) (t : Tm) (d : Addr) (m : Int → Option Tm), vs = [v, .ref d] ∧ TmIn H t v ∧ SbIn H d m ∧ t.sz ≤ 100000 ∧ t.dep ≤ N ∧ ∀ r H', Same H H' → TmIn H' (sub m t) r → Q r H'
theorem st_u_law_substitute (T : Tx K mg A) (N : Nat) (G_u_law_substitute : FnOk P w K mg base CX0 (N + 1) A.a_u_law_substitute A.d_u_law_substitute ["term", "substitution"] (sp_u_law_substitute N)) : FnOk P w K mg base CX0 (N + 2) A.a_u_law_substitute A.d_u_law_substitute ["term", "substitution"] (sp_u_law_substitute (N + 1)) := by

  refine T.F_u_law_substitute.ok sc_u_law_substitute (fun vs H Q E h => ?_) (fun cdv Ar outer s0 H vs Q E hr h => ?_)
  · obtain ⟨v, t, d, m, rfl, _⟩ := h; rfl
  obtain ⟨v, t, d, m, rfl, ht, hs, hz, hd, q⟩ := h
  refine ⟨_, (pss_cons (ps_if (pt_val (pe_callB (r := rIsi K) call_isi (by rfl) T.n_isinstance boot_isinstance (pa_cons (pv 0) (pa_cons (pe_bltn (v := .ty "int") (by rfl) T.n_int boot_int rfl) pa_nil)))) (pss_one (ps_ret (pe_dget2 (hu_of hr) (pv 1) (pv 0) (pv 0) ⟨by rfl, by rfl, by rfl, by rfl⟩))) pss_nil)
    (pss_cons (ps_set (i := 2) sc_u_law_substitute.nd rfl (Or.inl rfl) (pe_tup (pa_cons (pe_ix (r := rIxT K) ix_tup (pv 0) pe_int (fun _ _ => rfl)) pa_nil)))
    (pss_cons (ps_for PassesOwn.never rfl (pi_tup (pe_slice (r := rSlT K) sl_tup (pv 0) (po_some pe_int) po_none)) (pg_name (i := 3) sc_u_law_substitute.nd rfl (Or.inl rfl)) (pss_one (ps_set (i := 2) sc_u_law_substitute.nd rfl (Or.inl rfl) (pe_op (r := rCatT K) op_catT (pv 2) (pe_tup (pa_cons (pe_call G_u_law_substitute (hr.mono (by omega)) rfl T.m_u_law_substitute T.F_u_law_substitute.kp T.b_u_law_substitute .nil pass0 (pa_cons (pv 3) (pa_cons (pv 1) pa_nil))) pa_nil))))))
    (pss_one (ps_ret (pv 2)))))), ?_⟩
  cases t with
  | var n =>
    cases (show v = .int n from ht)
    walk_at "rd"
    walk_at "isi"
    obtain ⟨o, g, tm⟩ := hs.get n
    obtain ⟨kvs, hk⟩ := hs.at
    walk_at "rd"
    refine ⟨.inl ⟨_, .inl hk⟩, ?_⟩
    walk_at "rd"
    exact ⟨o, g, q _ H (Same.refl _) tm⟩
  | app f ts =>
    obtain ⟨a, vs, rfl, ha, hts⟩ := ht
    walk_at "rd"
    walk_at "isi"
    walk_at "rd"
    refine ⟨by show 1 ≤ sizeLine; decide, ?_⟩
    first | intro p n1 | refine fun p n1 => ?_
    generalize ehn : upd H p _ = H1
    have s1 := J.al_same n1 ehn
    have h1 := J.al_at ehn
    clear ehn
    have ha1 := s1 _ _ ha
    walk_at "rd"
    walk_at "sl1"
    first | intro u n2 | refine fun u n2 => ?_
    generalize ehn : upd H1 u _ = H2
    have s2 := J.al_same n2 ehn
    have h2 := J.al_at ehn
    clear ehn
    have hts2 := (hts.tu (tu_same s1)).tu (tu_same s2)
    have hs2 := (hs.same s1).same s2
    have hvl := hts.length
    have hz : 1 + Tm.szs ts ≤ 100000 := hz
    have hll := Tm.len_le ts
    refine ⟨_, rfl, ⟨_, SqT.of h2⟩, for_tup (xs := vs) (fun i σ' H' => ∃ p x ws, σ' = [some (.ref a), some (.ref d), some (.ref p), x] ∧ H' p = some (.tup (.str f :: ws)) ∧ TmsIn H' (subs m (ts.take i)) ws ∧ Same H2 H') ?_ ?_ ?_ ?_⟩
    · exact ⟨p, none, [], rfl, s2 _ _ h1, rfl, Same.refl _⟩
    · rintro i σ' H' hi ⟨p, x, ws, rfl, hp, hw, b⟩
      exact SqT.of (b _ _ h2)
    · rintro i y σ' H' hi ⟨p, x, ws, rfl, hp, hw, b⟩
      obtain ⟨t, gt, ht⟩ := hts2.get hi
      have mt : t ∈ ts := List.mem_of_getElem? gt
      have := Tm.sz_arg mt
      walk_at "rd"
      refine ⟨y, t, d, m, rfl, ht.tu (tu_same b), hs2.same b, by omega, TmIn.dep_arg hd mt, fun r H3 s3 hr3 => ?_⟩
      have hwl := hw.length
      have hl3 : (subs m (ts.take i)).length ≤ i := by rw [subs_map, List.length_map, List.length_take]; omega
      have hiv : i < vs.length := (List.getElem?_eq_some_iff.mp hi).1
      refine ⟨by show 1 ≤ sizeLine; decide, ?_⟩
      first | intro z n4 | refine fun z n4 => ?_
      generalize ehn : upd H3 z _ = H4
      have s4 := J.al_same n4 ehn
      have h4 := J.al_at ehn
      clear ehn
      refine ⟨p, z, _, _, rfl, rfl, SqT.of (s4 _ _ (s3 _ _ hp)), SqT.of h4, List.cons_ne_nil _ _, Nat.le_trans (show ws.length + 1 + 1 ≤ 100002 by omega) (by decide), fun z => absurd z (List.cons_ne_nil _ _), fun _ => ?_⟩
      first | intro z2 n5 | refine fun z2 n5 => ?_
      generalize ehn : upd H4 z2 _ = H5
      have s5 := J.al_same n5 ehn
      have h5 := J.al_at ehn
      clear ehn
      refine ⟨z2, _, ws ++ [r], rfl, h5, ?_, b.trans (s3.trans (s4.trans s5))⟩
      rw [list_take_succ gt, subs_map, List.map_append, ← subs_map]
      have tu35 := tu_same (s4.trans s5)
      exact ((hw.tu (tu_same s3)).tu tu35).append (TmsIn.one (hr3.tu tu35))
    · rintro σ' H' ⟨p, x, ws, rfl, hp, hw, b⟩
      rw [hvl, List.take_length] at hw
      walk_at "rd"
      exact q _ H' (s1.trans (s2.trans b)) ⟨p, ws, rfl, hp, hw⟩

theorem all_u_law_substitute (T : Tx K mg A) : ∀ N : Nat, FnOk P w K mg base CX0 (N + 1) A.a_u_law_substitute A.d_u_law_substitute ["term", "substitution"] (sp_u_law_substitute N)
  | 0 => fn_none fun vs H Q E h => by obtain ⟨v, t, d, m, _, _, _, _, hd, _⟩ := h; have := t.dep_pos; omega
  | N + 1 => st_u_law_substitute T N (all_u_law_substitute T N)
theorem ok_u_law_substitute (T : Tx K mg A) : FnOk P w K mg base CX0 61 A.a_u_law_substitute A.d_u_law_substitute ["term", "substitution"] (sp_u_law_substitute 60) := all_u_law_substitute T 60

/-! _law_match -/
def sp_u_law_match (N : Nat) : Sp := fun vs H Q _ => ∃ (pv tv : V) (p t : Tm) (d : Addr) (kvs : List (Key × V)) (tb : List (Int × Tm)) (fs : List Str) (B : Int), vs = [pv, tv, .ref d] ∧ TmIn H p pv ∧ TmIn H t tv ∧ H d = some (.dK kvs) ∧ TbIn H kvs tb ∧ (∀ x ∈ tb, x.2.wf fs B ∧ x.2.dep ≤ 60) ∧ tb.length + p.sz ≤ 10000 ∧ p.dep ≤ N ∧ p.sz ≤ 10000 ∧ t.sz ≤ 10000 ∧ t.dep ≤ 60 ∧ Names fs ∧ t.wf fs B ∧
  (∀ kvs' H', But d H H' → H' d = some (.dK kvs') → mtc p t tb = none → Q (.bl false) H') ∧ (∀ kvs' tb' H', But d H H' → H' d = some (.dK kvs') → mtc p t tb = some tb' → TbIn H' kvs' tb' → (∀ x ∈ tb', x.2.wf fs B ∧ x.2.dep ≤ 60) → Q (.bl true) H')
theorem st_u_law_match (T : Tx K mg A) (N : Nat) (G_u_law_match : FnOk P w K mg base CX0 (N + 1) A.a_u_law_match A.d_u_law_match ["pattern", "term", "found"] (sp_u_law_match N)) : FnOk P w K mg base CX0 (N + 2) A.a_u_law_match A.d_u_law_match ["pattern", "term", "found"] (sp_u_law_match (N + 1)) := by

  refine T.F_u_law_match.ok sc_u_law_match (fun vs H Q E h => ?_) (fun cdv Ar outer s0 H vs Q E hr h => ?_)
  · obtain ⟨pv, tv, p, t, d, kvs, tb, fs, B, rfl, _⟩ := h; rfl
  obtain ⟨pvv, tvv, p, t, d, kvs, tb, fs, B, rfl, hp, ht, hd, htb, hw, hbd, dp, zp, zt, dt, hn, wt, qn, qs⟩ := h
  refine ⟨_, (pss_cons (ps_if (pt_val (pe_callB (r := rIsi K) call_isi (by rfl) T.n_isinstance boot_isinstance (pa_cons (pv 0) (pa_cons (pe_bltn (v := .ty "int") (by rfl) T.n_int boot_int rfl) pa_nil)))) (pss_cons (ps_if (pt_cmp (pc_din (hu_of hr) (pv 0) (pv 2))) (pss_one (ps_ret (pe_cmpR (r := rEqD K) (op_eqD hr.units) (pe_dget (hu_of hr) (pv 2) (pv 0) (fun _ _ => rfl)) (pv 1) (nomark _)))) pss_nil)
    (pss_cons (ps_dput (hu_of hr) (pv 2) (pv 0) (pv 1) rfl)
    (pss_one (ps_ret pe_bl)))) pss_nil)
    (pss_cons (ps_if (PW.pt (pw_or (pt_val (pe_callB (r := rIsi K) call_isi (by rfl) T.n_isinstance boot_isinstance (pa_cons (pv 1) (pa_cons (pe_bltn (v := .ty "int") (by rfl) T.n_int boot_int rfl) pa_nil)))) (pw_or (pt_cmpR op_ne (pe_callB (r := rLenS K) j_len (by rfl) T.n_len PySem.boot_len (pa_cons (pv 0) pa_nil)) (pe_callB (r := rLenS K) j_len (by rfl) T.n_len PySem.boot_len (pa_cons (pv 1) pa_nil)) (nomark _)) (pw_or1 (pt_cmpR op_ne (pe_ix (r := rIxT K) ix_tup (pv 0) pe_int (fun _ _ => rfl)) (pe_ix (r := rIxT K) ix_tup (pv 1) pe_int (fun _ _ => rfl)) (nomark _)))))) (pss_one (ps_ret pe_bl)) pss_nil)
    (pss_cons (ps_for PassesOwn.never rfl (pi_range2 rfl T.n_range (pa_cons pe_int (pa_cons (pe_callB (r := rLenS K) j_len (by rfl) T.n_len PySem.boot_len (pa_cons (pv 0) pa_nil)) pa_nil))) (pg_name (i := 3) sc_u_law_match.nd rfl (Or.inl rfl)) (pss_one (ps_if (pt_not (pt_truth (pe_call G_u_law_match (hr.mono (by omega)) rfl T.m_u_law_match T.F_u_law_match.kp T.b_u_law_match .nil pass0 (pa_cons (pe_ix (r := rIxT K) ix_tup (pv 0) (pv 3) (fun _ _ => rfl)) (pa_cons (pe_ix (r := rIxT K) ix_tup (pv 1) (pv 3) (fun _ _ => rfl)) (pa_cons (pv 2) pa_nil)))) (by intro _; rfl))) (pss_one (ps_ret pe_bl)) pss_nil)))
    (pss_one (ps_ret pe_bl))))), ?_⟩
  have lk := htb.length
  cases p with
  | var n =>
    cases (show pvv = .int n from hp)
    obtain ⟨m1, m2⟩ := mtc_var n t tb
    have hval := htb.val n
    walk_at "ri"
    refine ⟨d, _, rfl, DGet.k (k := Sum.inl n) hd, ?_⟩
    cases e : look tb n with
    | some u0 =>
      rw [e] at hval
      obtain ⟨v1, e1, hu0⟩ := hval
      rw [e1]
      obtain ⟨q1, q2⟩ := hw _ (look_mem e)
      walk_at "rd"
      refine ⟨d, v1, rfl, e1 ▸ DGet.k (k := Sum.inl n) hd, ?_⟩
      refine ⟨_, rfl, ?_⟩
      refine ⟨_, _, tmD_dp u0 _ hu0, tmD_dp t _ ht, tmD_shaped hn q1 q2, tmD_shaped hn wt dt, ?_⟩
      by_cases z : u0 = t
      · rw [(tmD_eqv u0 t).mpr z]
        exact qs kvs tb H (But.refl _ _) hd ((m2 u0 e).1 z) htb hw
      · have : PyData.eqv (tmD u0) (tmD t) = false := by
          cases h : PyData.eqv (tmD u0) (tmD t) with
          | false => rfl
          | true => exact absurd ((tmD_eqv u0 t).mp h) z
        rw [this]
        exact qn kvs H (But.refl _ _) hd ((m2 u0 e).2 z)
    | none =>
      rw [e] at hval
      rw [hval]
      walk_at "rd"
      refine ⟨d, _, rfl, DPut.k (k := Sum.inl n) hd (Nat.lt_of_le_of_lt (show kvs.length ≤ 10000 by omega) (by decide)), ?_⟩
      rw [putK_new _ hval]
      generalize ehn : upd H d _ = H1
      have b1 := J.al_but ehn
      have h1 := J.al_at ehn
      clear ehn
      have tu1 : Tu H H1 := fun c zs e => b1 _ _ e fun z => by rw [z, hd] at e; cases e
      walk_at "rd"
      refine qs _ _ H1 b1 h1 (m1 e) ((htb.tu tu1).snoc (ht.tu tu1)) fun x hx => ?_
      rcases List.mem_append.mp hx with z | z
      · exact hw x z
      · rw [List.mem_singleton.mp z]; exact ⟨wt, dt⟩
  | app f ps =>
    obtain ⟨c, us, rfl, hc, hus⟩ := hp
    cases t with
    | var k0 =>
      cases (show tvv = .int k0 from ht)
      walk_at "ri"
      exact qn kvs H (But.refl _ _) hd (mtc_av f ps k0 tb)
    | app g ts =>
      obtain ⟨c2, us2, rfl, hc2, hus2⟩ := ht
      have l1 := hus.length
      have l2 := hus2.length
      walk_at "ri"
      refine ifNe (fun e2 => ?_) (fun e2 => ?_)
      · walk_at "rd"
        exact qn kvs H (But.refl _ _) hd (mtc_aan (fun z => e2 (by show ((us.length + 1 : Nat) : Int) = ((us2.length + 1 : Nat) : Int); omega)) tb)
      · have e2 : ps.length = ts.length := by
          have : ((us.length + 1 : Nat) : Int) = ((us2.length + 1 : Nat) : Int) := e2
          omega
        walk_at "rd"
        refine ifN (fun e => ?_) (fun e => ?_)
        · have e : f ≠ g := fun z => e (by rw [z])
          walk_at "rd"
          exact qn kvs H (But.refl _ _) hd (mtc_aan (fun z => e z.1) tb)
        · have e : f = g := by injection e
          have zp' : 1 + Tm.szs ps ≤ 10000 := zp
          have hbd' : tb.length + (1 + Tm.szs ps) ≤ 10000 := hbd
          have zt' : 1 + Tm.szs ts ≤ 10000 := zt
          have hll := Tm.len_le ps
          have wt' : Tm.wfs fs B ts := wt.2
          walk_at "rd"
          refine ⟨1, _, rfl, ⟨by decide, by decide, ?_, ?_⟩, ?_⟩
          · show -(2 ^ 62) ≤ ((us.length + 1 : Nat) : Int); omega
          · show ((us.length + 1 : Nat) : Int) < 2 ^ 62; omega
          have en : (((V.str f :: us).length : Int) - 1).toNat = ps.length := by
            show (((us.length + 1 : Nat) : Int) - 1).toNat = _
            omega
          rw [en]
          have tud : ∀ H', But d H H' → Tu H H' := fun H' b c zs e => b c _ e fun z => by rw [z, hd] at e; cases e
          refine for_range (lo := 1) (n := ps.length) (fun i σ' H' => ∃ (x : Option V) (kvs' : List (Key × V)) (tb' : List (Int × Tm)), σ' = [some (.ref c), some (.ref c2), some (.ref d), x] ∧ But d H H' ∧ H' d = some (.dK kvs') ∧ mtcs (ps.take i) (ts.take i) tb = some tb' ∧ TbIn H' kvs' tb' ∧ (∀ x ∈ tb', x.2.wf fs B ∧ x.2.dep ≤ 60) ∧ tb'.length ≤ tb.length + Tm.szs (ps.take i)) ?_ ?_ ?_
          · exact ⟨none, kvs, tb, rfl, But.refl _ _, hd, by rw [List.take_zero, List.take_zero, mtcs_nil], htb, hw, Nat.le_add_right _ _⟩
          · rintro i σ' H' hi ⟨x, kvs', tb', rfl, b, hd', hm, htb', hw', hlen⟩
            have gp := List.getElem?_eq_getElem hi
            have gt := List.getElem?_eq_getElem (l := ts) (i := i) (by omega)
            have mp : ps[i] ∈ ps := List.getElem_mem hi
            have mt : ts[i] ∈ ts := List.getElem_mem (by omega)
            generalize ps[i] = p1 at gp mp
            generalize ts[i] = t1 at gt mt
            obtain ⟨v1, gv1, hv1⟩ := hus.get' gp
            obtain ⟨v2, gv2, hv2⟩ := hus2.get' gt
            have z1 := Tm.sz_arg mp
            have z2 := Tm.sz_arg mt
            have d2 := Tm.dep_of_mem mt
            have dt' : 1 + Tm.deps ts ≤ 60 := dt
            have st := szs_take ps (i + 1)
            have st' : Tm.szs (ps.take (i + 1)) = Tm.szs (ps.take i) + p1.sz := by rw [list_take_succ gp, szs_app]; rfl
            have e1 : (1 : Int) + (i : Int) = ((i + 1 : Nat) : Int) := by omega
            have gt1 : atI (V.str f :: us) ((1 : Int) + (i : Int)) = some v1 := by rw [e1]; exact atI_nat (j := i + 1) (by rw [List.getElem?_cons_succ]; exact gv1)
            have gt2 : atI (V.str g :: us2) ((1 : Int) + (i : Int)) = some v2 := by rw [e1]; exact atI_nat (j := i + 1) (by rw [List.getElem?_cons_succ]; exact gv2)
            have tb0 := tud H' b
            replace hc := tb0 _ _ hc
            replace hc2 := tb0 _ _ hc2
            have ms := mtcs_succ ps ts tb tb' i p1 t1 e2 gp gt hm
            have mk := mtcs_take ps ts tb (i + 1) e2
            rw [ms] at mk
            walk_at "rd"
            refine ⟨v1, v2, p1, t1, d, kvs', tb', fs, B, rfl, hv1.tu tb0, hv2.tu tb0, hd', htb', hw', by omega, TmIn.dep_arg dp mp, by omega, by omega, by omega, hn, Tm.wf_of_mem wt' mt, fun kvs2 H2 b2 hd2 hno => ?_, fun kvs2 tb2 H2 b2 hd2 hyes htb2 hw2 => ?_⟩
            · walk_at "rd"
              refine qn kvs2 H2 (b.trans b2) hd2 ?_
              rw [mtc_aa ⟨e, e2⟩, mk, hno]; rfl
            · walk_at "rd"
              have := mtc_len p1.sz p1 t1 tb' tb2 (Nat.le_refl _) hyes
              exact ⟨_, kvs2, tb2, rfl, b.trans b2, hd2, by rw [ms]; exact hyes, htb2, hw2, by omega⟩
          · rintro σ' H' ⟨x, kvs', tb', rfl, b, hd', hm, htb', hw', hlen⟩
            rw [List.take_length, e2, List.take_length] at hm
            walk_at "rd"
            exact qs kvs' tb' H' b hd' (by rw [mtc_aa ⟨e, e2⟩]; exact hm) htb' hw'

theorem all_u_law_match (T : Tx K mg A) : ∀ N : Nat, FnOk P w K mg base CX0 (N + 1) A.a_u_law_match A.d_u_law_match ["pattern", "term", "found"] (sp_u_law_match N)
  | 0 => fn_none fun vs H Q E h => by obtain ⟨pv, tv, p, t, d, kvs, tb, fs, B, _, _, _, _, _, _, _, hd, _⟩ := h; have := p.dep_pos; omega
  | N + 1 => st_u_law_match T N (all_u_law_match T N)
theorem ok_u_law_match (T : Tx K mg A) : FnOk P w K mg base CX0 61 A.a_u_law_match A.d_u_law_match ["pattern", "term", "found"] (sp_u_law_match 60) := all_u_law_match T 60

/-! _law_match_all -/
def sp_u_law_match_all : Sp := fun vs H Q _ => ∃ (pl tl : Addr) (pv tv : List V) (ps ts : List Tm) (fs : List Str) (B : Int), vs = [.ref pl, .ref tl] ∧ H pl = some (.lst pv) ∧ H tl = some (.lst tv) ∧ TmsIn H ps pv ∧ TmsIn H ts tv ∧ ps.length = ts.length ∧ Tm.szs ps ≤ 10000 ∧ Tm.deps ps ≤ 60 ∧ Tm.szs ts ≤ 10000 ∧ Tm.deps ts ≤ 60 ∧ Names fs ∧ Tm.wfs fs B ts ∧
  (∀ H', Same H H' → mtcs ps ts [] = none → Q .non H') ∧ (∀ d kvs tb H', Same H H' → H d = none → mtcs ps ts [] = some tb → H' d = some (.dK kvs) → TbIn H' kvs tb → (∀ x ∈ tb, x.2.wf fs B ∧ x.2.dep ≤ 60) → Q (.ref d) H')
theorem ok_u_law_match_all (T : Tx K mg A) : FnOk P w K mg base CX0 (62) A.a_u_law_match_all A.d_u_law_match_all ["patterns", "terms"] sp_u_law_match_all := by
  have G_u_law_match := ok_u_law_match (P := P) (w := w) (base := base) T
  refine T.F_u_law_match_all.ok sc_u_law_match_all (fun vs H Q E h => ?_) (fun cdv Ar outer s0 H vs Q E hr h => ?_)
  · obtain ⟨pl, tl, pv, tv, ps, ts, fs, B, rfl, _⟩ := h; rfl
  obtain ⟨pl, tl, pvs, tvs, ps, ts, fs, B, rfl, hpl, htl, hps, hts, hlen, zp, dp, zt, dt, hn, wt, qn, qs⟩ := h
  refine ⟨_, (pss_cons (ps_set (i := 2) sc_u_law_match_all.nd rfl (Or.inl rfl) pe_dnewK)
    (pss_cons (ps_for PassesOwn.never rfl (pi_range1 rfl T.n_range (pa_cons (pe_callB (r := rLenS K) j_len (by rfl) T.n_len PySem.boot_len (pa_cons (pv 0) pa_nil)) pa_nil)) (pg_name (i := 3) sc_u_law_match_all.nd rfl (Or.inl rfl)) (pss_one (ps_if (pt_not (pt_truth (pe_call G_u_law_match (hr.mono (by omega)) rfl T.m_u_law_match T.F_u_law_match.kp T.b_u_law_match .nil pass0 (pa_cons (pe_ix (r := rIxL K) ix_list (pv 0) (pv 3) (fun _ _ => rfl)) (pa_cons (pe_ix (r := rIxL K) ix_list (pv 1) (pv 3) (fun _ _ => rfl)) (pa_cons (pv 2) pa_nil)))) (by intro _; rfl))) (pss_one (ps_ret pe_non)) pss_nil)))
    (pss_one (ps_ret (pv 2))))), ?_⟩
  dsimp only [tSeq, tAsg, tC, gName]
  first | intro d n1 | refine fun d n1 => ?_
  generalize ehn : upd H d _ = H1
  have s1 := J.al_same n1 ehn
  have h1 := J.al_at ehn
  clear ehn
  have l1 := hps.length
  have l2 := hts.length
  have hll := Tm.len_le ps
  have tud : ∀ H', But d H1 H' → Tu H1 H' := fun H' b c zs e => b c _ e fun z => by rw [z, h1] at e; cases e
  have pd : pl ≠ d := fun z => by rw [z, n1] at hpl; cases hpl
  have td : tl ≠ d := fun z => by rw [z, n1] at htl; cases htl
  walk_at "rd"
  refine ⟨pl, _, rfl, .inl (SqL.of (s1 _ _ hpl)), ?_⟩
  rw [l1]
  walk_at "rd"
  refine ⟨by omega, by omega, for_range (lo := 0) (n := ps.length) (fun i σ' H' => ∃ (x : Option V) (kvs' : List (Key × V)) (tb' : List (Int × Tm)), σ' = [some (.ref pl), some (.ref tl), some (.ref d), x] ∧ But d H1 H' ∧ H' d = some (.dK kvs') ∧ mtcs (ps.take i) (ts.take i) [] = some tb' ∧ TbIn H' kvs' tb' ∧ (∀ x ∈ tb', x.2.wf fs B ∧ x.2.dep ≤ 60) ∧ tb'.length ≤ Tm.szs (ps.take i)) ?_ ?_ ?_⟩
  · exact ⟨none, [], [], rfl, But.refl _ _, h1, by rw [List.take_zero, List.take_zero, mtcs_nil], trivial, (fun x hx => nomatch hx), Nat.zero_le _⟩
  · rintro i σ' H' hi ⟨x, kvs', tb', rfl, b, hd', hm, htb', hw', hlb⟩
    have gp := List.getElem?_eq_getElem hi
    have gt := List.getElem?_eq_getElem (l := ts) (i := i) (by omega)
    have mp : ps[i] ∈ ps := List.getElem_mem hi
    have mt : ts[i] ∈ ts := List.getElem_mem (by omega)
    generalize ps[i] = p1 at gp mp
    generalize ts[i] = t1 at gt mt
    obtain ⟨v1, gv1, hv1⟩ := hps.get' gp
    obtain ⟨v2, gv2, hv2⟩ := hts.get' gt
    have z1 := Tm.sz_arg mp
    have z2 := Tm.sz_arg mt
    have d1 := Tm.dep_of_mem mp
    have d2 := Tm.dep_of_mem mt
    have st := szs_take ps (i + 1)
    have st' : Tm.szs (ps.take (i + 1)) = Tm.szs (ps.take i) + p1.sz := by rw [list_take_succ gp, szs_app]; rfl
    have e1 : (0 : Int) + (i : Int) = ((i : Nat) : Int) := by omega
    have tb0 := tud H' b
    have tb1 := (tu_same s1).trans tb0
    have hpl' := b _ _ (s1 _ _ hpl) pd
    have htl' := b _ _ (s1 _ _ htl) td
    have ms := mtcs_succ ps ts [] tb' i p1 t1 hlen gp gt hm
    have mk := mtcs_take ps ts [] (i + 1) hlen
    rw [ms] at mk
    walk_at "rd"
    refine ⟨pl, _, _, v1, rfl, rfl, SqL.of hpl', by rw [e1]; exact atI_nat gv1, ?_⟩
    walk_at "rd"
    refine ⟨tl, _, _, v2, rfl, rfl, SqL.of htl', by rw [e1]; exact atI_nat gv2, ?_⟩
    walk_at "rd"
    refine ⟨v1, v2, p1, t1, d, kvs', tb', fs, B, rfl, hv1.tu tb1, hv2.tu tb1, hd', htb', hw', by omega, by omega, by omega, by omega, by omega, hn, Tm.wf_of_mem wt mt, fun kvs2 H2 b2 hd2 hno => ?_, fun kvs2 tb2 H2 b2 hd2 hyes htb2 hw2 => ?_⟩
    · walk_at "rd"
      refine qn H2 (fun c o e => (b.trans b2) _ _ (s1 _ _ e) fun z => by rw [z, n1] at e; cases e) ?_
      rw [mk, hno]; rfl
    · walk_at "rd"
      have := mtc_len p1.sz p1 t1 tb' tb2 (Nat.le_refl _) hyes
      exact ⟨_, kvs2, tb2, rfl, b.trans b2, hd2, by rw [ms]; exact hyes, htb2, hw2, by omega⟩
  · rintro σ' H' ⟨x, kvs', tb', rfl, b, hd', hm, htb', hw', hlb⟩
    rw [List.take_length, hlen, List.take_length] at hm
    walk_at "rd"
    exact qs d kvs' tb' H' (fun c o e => b _ _ (s1 _ _ e) fun z => by rw [z, n1] at e; cases e) n1 hm hd' htb' hw'

/-! _law_is_instance -/
def PrTm (H : Hp) (a : Addr) (t r : Tm) : Prop := ∃ x y, H a = some (.tup [x, y]) ∧ TmIn H t x ∧ TmIn H r y
theorem PrTm.tu {H H' : Hp} {a : Addr} {t r : Tm} (h : PrTm H a t r) (s : Tu H H') : PrTm H' a t r := by
  obtain ⟨x, y, e, h1, h2⟩ := h
  exact ⟨x, y, s _ _ e, h1.tu s, h2.tu s⟩
noncomputable def minst (e f g h : Tm) : Bool := (mtcs [g, h] [e, f] []).isSome
structure Okk (fs : List Str) (t : Tm) : Prop where
  wf : t.wf fs 3
  sz : t.sz ≤ 1000
  dep : t.dep ≤ 50
theorem Okk.two {fs : List Str} {t r : Tm} (h : Okk fs t) (k : Okk fs r) : Tm.szs [t, r] ≤ 2000 ∧ Tm.deps [t, r] ≤ 50 ∧ Tm.wfs fs 3 [t, r] := by
  have := h.sz
  have := k.sz
  refine ⟨?_, Tm.deps_le (n := 50) ?_, h.wf, k.wf, trivial⟩
  · show t.sz + (r.sz + 0) ≤ 2000
    omega
  · intro x hx
    rcases List.mem_cons.mp hx with rfl | hx
    · exact h.dep
    · rw [List.mem_singleton.mp hx]; exact k.dep
def sp_u_law_is_instance : Sp := fun vs H Q _ => ∃ (a b : Addr) (e f g h : Tm) (fs : List Str), vs = [.ref a, .ref b] ∧ PrTm H a e f ∧ PrTm H b g h ∧ Names fs ∧ Okk fs e ∧ Okk fs f ∧ Okk fs g ∧ Okk fs h ∧ ∀ H', Same H H' → Q (.bl (minst e f g h)) H'
theorem ok_u_law_is_instance (T : Tx K mg A) : FnOk P w K mg base CX0 (63) A.a_u_law_is_instance A.d_u_law_is_instance ["equation", "general"] sp_u_law_is_instance := by
  have G_u_law_match_all := ok_u_law_match_all (P := P) (w := w) (base := base) T
  refine T.F_u_law_is_instance.ok sc_u_law_is_instance (fun vs H Q E h => ?_) (fun cdv Ar outer s0 H vs Q E hr h => ?_)
  · obtain ⟨a, b, e, f, g, h, fs, rfl, _⟩ := h; rfl
  obtain ⟨a, b, e, f, g, h, fs, rfl, ⟨x, y, ha, he, hf⟩, ⟨u, v, hb, hg, hh⟩, hn, oe, of, og, oh, q⟩ := h
  refine ⟨_, (pss_one (ps_ret (pe_cmpR op_notN (pe_call G_u_law_match_all (hr.mono (by omega)) rfl T.m_u_law_match_all T.F_u_law_match_all.kp T.b_u_law_match_all .nil pass0 (pa_cons (pe_lst (pa_cons (pe_ix (r := rIxT K) ix_tup (pv 1) pe_int (fun _ _ => rfl)) (pa_cons (pe_ix (r := rIxT K) ix_tup (pv 1) pe_int (fun _ _ => rfl)) pa_nil))) (pa_cons (pe_lst (pa_cons (pe_ix (r := rIxT K) ix_tup (pv 0) pe_int (fun _ _ => rfl)) (pa_cons (pe_ix (r := rIxT K) ix_tup (pv 0) pe_int (fun _ _ => rfl)) pa_nil))) pa_nil))) pe_non (nomark _)))), ?_⟩
  obtain ⟨z1, d1, w1⟩ := og.two oh
  obtain ⟨z2, d2, w2⟩ := oe.two of
  walk_at "rd"
  refine ⟨show 2 ≤ sizeLine by decide, ?_⟩
  first | intro y1 n1 | refine fun y1 n1 => ?_
  generalize ehn : upd H y1 _ = H1
  have s1 := J.al_same n1 ehn
  have h1 := J.al_at ehn
  clear ehn
  have ha1 := s1 _ _ ha
  walk_at "rd"
  refine ⟨show 2 ≤ sizeLine by decide, ?_⟩
  first | intro y2 n2 | refine fun y2 n2 => ?_
  generalize ehn : upd H1 y2 _ = H2
  have s2 := J.al_same n2 ehn
  have h2 := J.al_at ehn
  clear ehn
  have k2 := s1.trans s2
  refine ⟨y1, y2, [u, v], [x, y], [g, h], [e, f], fs, 3, rfl, s2 _ _ h1, h2, ⟨u, _, rfl, hg.tu (tu_same k2), v, _, rfl, hh.tu (tu_same k2), rfl⟩, ⟨x, _, rfl, he.tu (tu_same k2), y, _, rfl, hf.tu (tu_same k2), rfl⟩, rfl, by omega, by omega, by omega, by omega, hn, w2, fun H3 s3 hno => ?_, fun d kvs tb H3 s3 nd hyes hd htb hb => ?_⟩
  · have e : minst e f g h = false := by unfold minst; rw [hno]; rfl
    rw [e] at q
    walk_at "rd"
    exact q _ (k2.trans s3)
  · have e : minst e f g h = true := by unfold minst; rw [hyes]; rfl
    rw [e] at q
    walk_at "rd"
    exact q _ (k2.trans s3)

/-! _law_tells -/
def sp_u_law_tells : Sp := fun vs H Q _ => ∃ (a b : Bool), vs = [.bl a, .bl b] ∧ Q (.bl (a == b)) H
theorem ok_u_law_tells (T : Tx K mg A) : FnOk P w K mg base CX0 (1) A.a_u_law_tells A.d_u_law_tells ["actual", "due"] sp_u_law_tells := by

  refine T.F_u_law_tells.ok sc_u_law_tells (fun vs H Q E h => ?_) (fun cdv Ar outer s0 H vs Q E hr h => ?_)
  · obtain ⟨a, b, rfl, _⟩ := h; rfl
  obtain ⟨a, b, rfl, q⟩ := h
  refine ⟨_, (pss_cons (ps_if (pt_val (pv 1)) (pss_one (ps_ret (pe_cmpR op_isBl (pv 0) pe_bl (nomark _)))) pss_nil)
    (pss_one (ps_ret (pe_cmpR op_isBl (pv 0) pe_bl (nomark _))))), ?_⟩
  cases a <;> cases b
  · walk_at "rd"
    exact q
  · walk_at "rd"
    exact q
  · walk_at "rd"
    exact q
  · walk_at "rd"
    exact q

/-! match_lists -/
def sp_match_lists : Sp := fun vs H Q _ => ∃ (pl tl : Addr) (pvs tvs : List V) (ps ts : List Tm) (fs : List Str) (B : Int), vs = [.ref pl, .ref tl] ∧ H pl = some (.lst pvs) ∧ H tl = some (.lst tvs) ∧ TmsIn H ps pvs ∧ TmsIn H ts tvs ∧ ps.length = ts.length ∧ Tm.szs ps ≤ 10000 ∧ Tm.szs ts ≤ 10000 ∧ Tm.deps ts ≤ 60 ∧ Names fs ∧ Tm.wfs fs B ps ∧ Tm.wfs fs B ts ∧
  (∀ H', Same H H' → mtcs ps ts [] = none → Q .non H') ∧ (∀ d kvs tb H', Same H H' → H d = none → mtcs ps ts [] = some tb → H' d = some (.dK kvs) → TbIn H' kvs tb → Q (.ref d) H')
theorem ok_match_lists (T : Tx K mg A) : FnOk P w K mg base CX0 (1) A.a_match_lists A.d_match_lists ["patterns", "terms"] sp_match_lists := by

  refine T.F_match_lists.ok sc_match_lists (fun vs H Q E h => ?_) (fun cdv Ar outer s0 H vs Q E hr h => ?_)
  · obtain ⟨pl, tl, pvs, tvs, ps, ts, fs, B, rfl, _⟩ := h; rfl
  obtain ⟨pl, tl, pvs, tvs, ps, ts, fs, B, rfl, hpl, htl, hps, hts, hlen, zp, zt, dt, hn, wp, wt, qn, qS⟩ := h
  refine ⟨_, (pss_cons (ps_set (i := 2) sc_match_lists.nd rfl (Or.inl rfl) pe_dnewK)
    (pss_cons (ps_set (i := 3) sc_match_lists.nd rfl (Or.inl rfl) (pe_listZip (by rfl) (by rfl) T.n_list boot_list (by rfl) T.n_zip (pa_cons (pe_revL (pv 0)) (pa_cons (pe_revL (pv 1)) pa_nil))))
    (pss_cons (ps_while PassesOwn.never (pt_truth (pv 3) (by intro _; rfl)) (pss_cons (ps_asg (pe_bm0 PySem.F.plainAttrs_list PySem.F.slot_list_pop PySem.F.type_list_pop mt_pop (pv 3)) (pg_tup (by rfl) (pgs_cons (pg_name (i := 4) sc_match_lists.nd rfl (Or.inl rfl)) (pgs_cons (pg_name (i := 5) sc_match_lists.nd rfl (Or.inl rfl)) pgs_nil))))
    (pss_one (ps_if (pt_val (pe_callB (r := rIsi K) call_isi (by rfl) T.n_isinstance boot_isinstance (pa_cons (pv 4) (pa_cons (pe_bltn (v := .ty "int") (by rfl) T.n_int boot_int rfl) pa_nil)))) (pss_one (ps_if (pt_cmpR (r := rNeD K) (op_neD hr.units) (pe_dsetd (pv 2) (pv 4) (pv 5) ⟨by rfl, by rfl, by rfl, by rfl⟩) (pv 5) (nomark _)) (pss_one (ps_ret pe_non)) pss_nil)) (pss_one (ps_if (PW.pt (pw_or (pt_val (pe_callB (r := rIsi K) call_isi (by rfl) T.n_isinstance boot_isinstance (pa_cons (pv 5) (pa_cons (pe_bltn (v := .ty "int") (by rfl) T.n_int boot_int rfl) pa_nil)))) (pw_or (pt_cmpR op_ne (pe_ix (r := rIxT K) ix_tup (pv 4) pe_int (fun _ _ => rfl)) (pe_ix (r := rIxT K) ix_tup (pv 5) pe_int (fun _ _ => rfl)) (nomark _)) (pw_or1 (pt_cmpR op_ne (pe_callB (r := rLenS K) j_len (by rfl) T.n_len PySem.boot_len (pa_cons (pv 4) pa_nil)) (pe_callB (r := rLenS K) j_len (by rfl) T.n_len PySem.boot_len (pa_cons (pv 5) pa_nil)) (nomark _)))))) (pss_one (ps_ret pe_non)) (pss_one (ps_expr (pe_bm PySem.F.plainAttrs_list PySem.F.slot_list_extend PySem.F.type_list_extend mt_extend (pv 3) (pa_cons (pe_listZip (by rfl) (by rfl) T.n_list boot_list (by rfl) T.n_zip (pa_cons (pe_revT (pv 4)) (pa_cons (pe_revT (pv 5)) pa_nil))) pa_nil))))))))))
    (pss_one (ps_ret (pv 2)))))), ?_⟩
  dsimp only [tSeq, tAsg, tC, gName]
  first | intro d n1 | refine fun d n1 => ?_
  generalize ehn : upd H d _ = H1
  have s1 := J.al_same n1 ehn
  have h1 := J.al_at ehn
  clear ehn
  walk_at "rd"
  refine ⟨pl, pvs, rfl, SqL.of (s1 _ _ hpl), ?_⟩
  first | intro rp n2 | refine fun rp n2 => ?_
  generalize ehn : upd H1 rp _ = H2
  have s2 := J.al_same n2 ehn
  have h2 := J.al_at ehn
  clear ehn
  walk_at "rd"
  refine ⟨tl, tvs, rfl, SqL.of (s2 _ _ (s1 _ _ htl)), ?_⟩
  first | intro rt n3 | refine fun rt n3 => ?_
  generalize ehn : upd H2 rt _ = H3
  have s3 := J.al_same n3 ehn
  have h3 := J.al_at ehn
  clear ehn
  have k13 : Same H1 H3 := s2.trans s3
  have k3 : Same H H3 := s1.trans k13
  have lp := hps.length
  have lt' := hts.length
  refine ⟨rp, rt, _, _, rfl, .inl ⟨SqL.of (s3 _ _ h2), SqL.of h3⟩, by rw [List.length_reverse, List.length_reverse]; omega, fun H4 w zs s4 n4 _ hw hzs => ?_⟩
  have hd4 := s4 _ _ (k13 _ _ h1)
  have n4' : H w = none := k3.free n4
  have dw : d ≠ w := fun z => by rw [← z, k13 _ _ h1] at n4; cases n4
  have k4 : Same H H4 := k3.trans s4
  have pr4 := PrIn.of_zip (hps.rev.tu (tu_same k4)) (hts.rev.tu (tu_same k4)) (by rw [List.length_reverse, List.length_reverse]; exact hlen) hzs
  rw [zip_rev ps ts hlen] at pr4
  have wpm := fun x (hx : x ∈ ps) => Tm.wf_of_mem wp hx
  have wtm := fun x (hx : x ∈ ts) => Tm.wf_of_mem wt hx
  dsimp only [gName]
  refine while_listM (K := K) (fun m σ' H' => ∃ (kvs : List (Key × V)) (tb : List (Int × Tm)) (ws : List V) (qs : List (Tm × Tm)) (x4 x5 : Option V), σ' = [some (.ref pl), some (.ref tl), some (.ref d), some (.ref w), x4, x5] ∧ H' d = some (.dK kvs) ∧ TbIn H' kvs tb ∧ H' w = some (.lst ws) ∧ PrIn H' ws qs ∧
    mtcs (qs.reverse.map (·.1)) (qs.reverse.map (·.2)) tb = mtcs ps ts [] ∧ (∀ x ∈ qs, x.1.wf fs B ∧ x.2.wf fs B ∧ x.2.dep ≤ 60 ∧ x.2.sz ≤ 10000) ∧ (∀ x ∈ tb, x.2.wf fs B ∧ x.2.dep ≤ 60) ∧ Tm.szs (qs.map (·.1)) = m ∧ tb.length + m ≤ 10000 ∧ Same H H') (Tm.szs ps) ?_ ?_
  · refine ⟨[], [], _, _, none, none, rfl, hd4, trivial, hw, pr4, ?_, fun x hx => ?_, (fun x hx => nomatch hx), ?_, by show 0 + _ ≤ _; omega, k4⟩
    · rw [List.reverse_reverse, List.map_fst_zip (Nat.le_of_eq hlen), List.map_snd_zip (Nat.le_of_eq hlen.symm)]
    · have hx := List.of_mem_zip (List.mem_reverse.mp hx)
      have h1 := Tm.dep_of_mem hx.2
      have h2 := Tm.sz_arg hx.2
      exact ⟨wpm _ hx.1, wtm _ hx.2, by omega, by omega⟩
    · rw [List.map_reverse, szs_rev, List.map_fst_zip (Nat.le_of_eq hlen)]
  · rintro m σ' H' ⟨kvs, tb, ws, qs, x4, x5, rfl, hd', htb, hw', hpr, hmt, hqs, htbw, hm, hbd, k⟩
    refine ⟨w, ws, rfl, hw', fun z => ?_, fun z => ?_⟩
    · subst z
      cases qs with
      | cons _ _ => exact hpr.elim
      | nil =>
        have hmt : mtcs [] [] tb = mtcs ps ts [] := hmt
        rw [mtcs_nil] at hmt
        walk_at "rd"
        exact qS d kvs tb H' k n1 hmt.symm hd' htb
    · obtain ⟨ws', wv, qs', x, rfl, rfl, hpr', ⟨⟨a, u, v, rfl, ha, hu', hv'⟩, _⟩⟩ := hpr.snoc z
      rw [List.map_append, szs_app] at hm
      have hm : Tm.szs (qs'.map (·.1)) + (x.1.sz + 0) = m := hm
      have xp := x.1.sz_pos
      have lq := hpr'.length
      have ql := Tm.len_le (qs'.map (·.1))
      rw [List.length_map] at ql
      obtain ⟨w1, w2, w3, w4⟩ := hqs x (List.mem_append.mpr (.inr (List.mem_singleton.mpr rfl)))
      have hqs' := fun y (hy : y ∈ qs') => hqs y (List.mem_append.mpr (.inl hy))
      rw [List.reverse_append] at hmt
      have hmt : mtcs (x.1 :: qs'.reverse.map (·.1)) (x.2 :: qs'.reverse.map (·.2)) tb = mtcs ps ts [] := hmt
      rw [mtcs_cons] at hmt
      have lk := htb.length
      walk_at "rd"
      refine ⟨.inl ⟨rfl, _, SqL.of hw'⟩, w, _, .ref a, rfl, rfl, hw', by rw [List.length_append, List.length_singleton, Nat.add_sub_cancel, List.getElem?_append_right (Nat.le_refl _), Nat.sub_self]; rfl, ?_⟩
      rw [List.dropLast_concat]
      generalize ehn : upd H' w _ = H5
      have b5 := J.al_but ehn
      have h5 := J.al_at ehn
      clear ehn
      have k5 : Same H H5 := fun c o e => b5 c o (k c o e) fun z => by rw [z, n4'] at e; cases e
      have tu5 : Tu H' H5 := but_tu b5 (lst_not_tup hw')
      have hd5 := b5 _ _ hd' dw
      have htb5 := htb.tu tu5
      have hu5 := hu'.tu tu5
      have hv5 := hv'.tu tu5
      have hpr5 := hpr'.tu tu5
      refine ⟨a, _, rfl, SqT.of (tu5 _ _ ha), rfl, _, _, rfl, _, _, rfl, rfl, ?_⟩
      obtain ⟨x1, x2⟩ := x
      dsimp only at hu5 hv5 hmt hm xp w1 w2 w3 w4
      cases x1 with
      | var n =>
        cases (show u = .int n from hu5)
        walk_at "ri"
        refine ⟨.inl ⟨kvs, .inl hd5⟩, ?_⟩
        walk_at "rd"
        obtain ⟨m1, m2⟩ := mtc_var n x2 tb
        have hval := htb5.val n
        refine ⟨kvs, .inl n, hd5, rfl, Nat.lt_of_le_of_lt (show kvs.length ≤ 10000 by omega) (by decide), fun v0 hv0 => ?_, fun hv0 => ?_⟩
        · cases e : look tb n with
          | none => rw [e] at hval; rw [hval] at hv0; cases hv0
          | some u0 =>
            rw [e] at hval
            obtain ⟨v1, e1, hu0⟩ := hval
            rw [hv0] at e1; cases e1
            obtain ⟨q1, q2⟩ := htbw _ (look_mem e)
            refine ⟨_, rfl, ?_⟩
            refine ⟨_, _, tmD_dp u0 _ hu0, tmD_dp x2 _ hv5, tmD_shaped hn q1 q2, tmD_shaped hn w2 w3, ?_⟩
            by_cases z : u0 = x2
            · rw [(tmD_eqv u0 x2).mpr z]
              rw [(m2 u0 e).1 z] at hmt
              walk_at "rd"
              refine ifNB (fun e => nomatch e) (fun _ => ?_)
              dsimp only [tNext]
              refine less_of (k := Tm.szs (qs'.map (·.1))) ⟨kvs, tb, ws', qs', _, _, rfl, hd5, htb5, h5, hpr5, hmt, hqs', htbw, rfl, by omega, k5⟩ ?_
              have : (Tm.var n).sz = 1 := rfl
              omega
            · have : PyData.eqv (tmD u0) (tmD x2) = false := by
                cases h : PyData.eqv (tmD u0) (tmD x2) with
                | false => rfl
                | true => exact absurd ((tmD_eqv u0 x2).mp h) z
              rw [this]
              rw [(m2 u0 e).2 z] at hmt
              walk_at "rd"
              exact qn _ k5 hmt.symm
        · have e : look tb n = none := by
            cases e : look tb n with
            | none => rfl
            | some u0 =>
              rw [e] at hval
              obtain ⟨v1, e1, _⟩ := hval
              rw [hv0] at e1; cases e1
          rw [m1 e] at hmt
          rw [putK_new _ hv0]
          generalize ehn : upd H5 d _ = H6
          have b6 := J.al_but ehn
          have h6 := J.al_at ehn
          clear ehn
          have tu6 : Tu H5 H6 := fun c zs e => b6 _ _ e fun z => by rw [z, hd5] at e; cases e
          have k6 : Same H H6 := fun c o e => b6 c o (k5 c o e) fun z => by rw [z, n1] at e; cases e
          refine ⟨_, rfl, ?_⟩
          refine ⟨_, _, tmD_dp x2 _ (hv5.tu tu6), tmD_dp x2 _ (hv5.tu tu6), tmD_shaped hn w2 w3, tmD_shaped hn w2 w3, ?_⟩
          rw [(tmD_eqv x2 x2).mpr rfl]
          walk_at "rd"
          refine ifNB (fun e => nomatch e) (fun _ => ?_)
          dsimp only [tNext]
          have one : (Tm.var n).sz = 1 := rfl
          refine less_of (k := Tm.szs (qs'.map (·.1))) ⟨_, tb ++ [(n, x2)], ws', qs', _, _, rfl, h6, (htb5.tu tu6).snoc (hv5.tu tu6), b6 _ _ h5 dw.symm, hpr5.tu tu6, hmt, hqs', fun y hy => ?_, rfl, ?_, k6⟩ (by omega)
          · rcases List.mem_append.mp hy with z | z
            · exact htbw y z
            · rw [List.mem_singleton.mp z]; exact ⟨w2, w3⟩
          · rw [List.length_append, List.length_singleton]
            have : (Tm.var n).sz = 1 := rfl
            omega
      | app f ps' =>
        obtain ⟨c, us, rfl, hc, hus⟩ := hu5
        cases x2 with
        | var k0 =>
          cases (show v = .int k0 from hv5)
          rw [mtc_av] at hmt
          walk_at "ri"
          exact qn _ k5 hmt.symm
        | app g ts' =>
          obtain ⟨c2, us2, rfl, hc2, hus2⟩ := hv5
          have l1 := hus.length
          have l2 := hus2.length
          walk_at "ri"
          refine ifN (fun e => ?_) (fun e => ?_)
          · have e : f ≠ g := fun z => e (by rw [z])
            rw [mtc_aan (fun z => e z.1)] at hmt
            walk_at "rd"
            exact qn _ k5 hmt.symm
          · have e : f = g := by injection e
            walk_at "rd"
            refine ifNe (fun e2 => ?_) (fun e2 => ?_)
            · rw [mtc_aan (fun z => e2 (by show ((us.length + 1 : Nat) : Int) = ((us2.length + 1 : Nat) : Int); omega))] at hmt
              walk_at "rd"
              exact qn _ k5 hmt.symm
            · have e2 : ps'.length = ts'.length := by
                have : ((us.length + 1 : Nat) : Int) = ((us2.length + 1 : Nat) : Int) := e2
                omega
              rw [mtc_aa ⟨e, e2⟩] at hmt
              walk_at "rd"
              refine ⟨.inl ⟨rfl, _, SqL.of h5⟩, ?_⟩
              walk_at "rd"
              refine ⟨c, _, us, rfl, SqT.of hc, ?_⟩
              first | intro y1 n6 | refine fun y1 n6 => ?_
              generalize ehn : upd H5 y1 _ = H6
              have s6 := J.al_same n6 ehn
              have h6 := J.al_at ehn
              clear ehn
              walk_at "rd"
              refine ⟨c2, _, us2, rfl, SqT.of (s6 _ _ hc2), ?_⟩
              first | intro y2 n7 | refine fun y2 n7 => ?_
              generalize ehn : upd H6 y2 _ = H7
              have s7 := J.al_same n7 ehn
              have h7 := J.al_at ehn
              clear ehn
              have k57 : Same H5 H7 := s6.trans s7
              refine ⟨y1, y2, _, _, rfl, .inr ⟨SqT.of (s7 _ _ h6), SqT.of h7⟩, by rw [List.length_reverse, List.length_reverse]; omega, fun H8 zl zs8 s8 n8 _ hzl hzs8 => ?_⟩
              have k58 : Same H5 H8 := k57.trans s8
              have tu58 := tu_same k58
              have pr8 := PrIn.of_zip (hus.rev.tu tu58) (hus2.rev.tu tu58) (by rw [List.length_reverse, List.length_reverse]; exact e2) hzs8
              rw [zip_rev ps' ts' e2] at pr8
              have hw8 := k58 _ _ h5
              have w1' : Tm.wfs fs B ps' := w1.2
              have w2' : Tm.wfs fs B ts' := w2.2
              have zl8 := pr8.length
              rw [List.length_reverse, List.length_zip, e2, Nat.min_self] at zl8
              have ll := Tm.len_le ps'
              have sz1 : (Tm.app f ps').sz = 1 + Tm.szs ps' := rfl
              refine ⟨w, zl, _, _, rfl, rfl, hw8, hzl, Nat.le_trans (show ws'.length + (List.map V.ref zs8).length ≤ 20000 by omega) (by decide), ?_⟩
              generalize ehn : upd H8 w _ = H9
              have b9 := J.al_but ehn
              have h9 := J.al_at ehn
              clear ehn
              have tu9 : Tu H8 H9 := but_tu b9 (lst_not_tup hw8)
              have tu59 := tu58.trans tu9
              have k9 : Same H H9 := fun c o e => b9 c o (k58 _ _ (k5 c o e)) fun z => by rw [z, n4'] at e; cases e
              dsimp only [tNext]
              refine less_of (k := Tm.szs (qs'.map (·.1)) + Tm.szs ps') ⟨kvs, tb, _, qs' ++ (ps'.zip ts').reverse, _, _, rfl, b9 _ _ (k58 _ _ hd5) dw, htb5.tu tu59, h9, (hpr5.tu tu59).app (pr8.tu tu9), ?_, fun x hx => ?_, htbw, ?_, by omega, k9⟩ (by omega)
              · rw [List.reverse_append, List.reverse_reverse, List.map_append, List.map_append, List.map_fst_zip (Nat.le_of_eq e2), List.map_snd_zip (Nat.le_of_eq e2.symm), mtcs_app _ _ _ _ _ e2]
                exact hmt
              · rcases List.mem_append.mp hx with z | z
                · exact hqs' x z
                · have hx := List.of_mem_zip (List.mem_reverse.mp z)
                  have h1 := Tm.dep_of_mem hx.2
                  have h2 := Tm.sz_arg hx.2
                  have d1 : (Tm.app g ts').dep = 1 + Tm.deps ts' := rfl
                  have d2 : (Tm.app g ts').sz = 1 + Tm.szs ts' := rfl
                  exact ⟨Tm.wf_of_mem w1' hx.1, Tm.wf_of_mem w2' hx.2, by omega, by omega⟩
              · rw [List.map_append, szs_app, List.map_reverse, szs_rev, List.map_fst_zip (Nat.le_of_eq e2)]

/-! is_instance -/
def sp_is_instance : Sp := fun vs H Q _ => ∃ (a b : Addr) (e f g h : Tm) (fs : List Str), vs = [.ref a, .ref b] ∧ PrTm H a e f ∧ PrTm H b g h ∧ Names fs ∧ Okk fs e ∧ Okk fs f ∧ Okk fs g ∧ Okk fs h ∧ ∀ H', Same H H' → Q (.bl (minst e f g h)) H'
theorem ok_is_instance (T : Tx K mg A) : FnOk P w K mg base CX0 (2) A.a_is_instance A.d_is_instance ["equation", "general"] sp_is_instance := by
  have G_match_lists := ok_match_lists (P := P) (w := w) (base := base) T
  refine T.F_is_instance.ok sc_is_instance (fun vs H Q E h => ?_) (fun cdv Ar outer s0 H vs Q E hr h => ?_)
  · obtain ⟨a, b, e, f, g, h, fs, rfl, _⟩ := h; rfl
  obtain ⟨a, b, e, f, g, h, fs, rfl, ⟨x, y, ha, he, hf⟩, ⟨u, v, hb, hg, hh⟩, hn, oe, of, og, oh, q⟩ := h
  refine ⟨_, (pss_one (ps_ret (pe_cmpR op_notN (pe_call G_match_lists (hr.mono (by omega)) rfl T.m_match_lists T.F_match_lists.kp T.b_match_lists .nil pass0 (pa_cons (pe_callTy (r := rListS K) j_list (by rfl) T.n_list boot_list (pa_cons (pv 1) pa_nil)) (pa_cons (pe_callTy (r := rListS K) j_list (by rfl) T.n_list boot_list (pa_cons (pv 0) pa_nil)) pa_nil))) pe_non (nomark _)))), ?_⟩
  obtain ⟨z1, d1, w1⟩ := og.two oh
  obtain ⟨z2, d2, w2⟩ := oe.two of
  walk_at "rd"
  first | intro y1 n1 | refine fun y1 n1 => ?_
  generalize ehn : upd H y1 _ = H1
  have s1 := J.al_same n1 ehn
  have h1 := J.al_at ehn
  clear ehn
  walk_at "rd"
  refine ⟨a, _, rfl, .inr (SqT.of (s1 _ _ ha)), ?_⟩
  first | intro y2 n2 | refine fun y2 n2 => ?_
  generalize ehn : upd H1 y2 _ = H2
  have s2 := J.al_same n2 ehn
  have h2 := J.al_at ehn
  clear ehn
  have k2 := s1.trans s2
  refine ⟨y1, y2, [u, v], [x, y], [g, h], [e, f], fs, 3, rfl, s2 _ _ h1, h2, ⟨u, _, rfl, hg.tu (tu_same k2), v, _, rfl, hh.tu (tu_same k2), rfl⟩, ⟨x, _, rfl, he.tu (tu_same k2), y, _, rfl, hf.tu (tu_same k2), rfl⟩, rfl, by omega, by omega, by omega, hn, w1, w2, fun H3 s3 hno => ?_, fun d kvs tb H3 s3 nd hyes hd htb => ?_⟩
  · have e : minst e f g h = false := by unfold minst; rw [hno]; rfl
    rw [e] at q
    walk_at "rd"
    exact q _ (k2.trans s3)
  · have e : minst e f g h = true := by unfold minst; rw [hyes]; rfl
    rw [e] at q
    walk_at "rd"
    exact q _ (k2.trans s3)

/-! subsumes -/
def sp_subsumes : Sp := fun vs H Q _ => ∃ (a b : Addr) (e f g h : Tm) (fs : List Str), vs = [.ref b, .ref a] ∧ PrTm H a e f ∧ PrTm H b g h ∧ Names fs ∧ Okk fs e ∧ Okk fs f ∧ Okk fs g ∧ Okk fs h ∧ ∀ H', Same H H' → Q (.bl (minst e f g h || minst f e g h)) H'
theorem ok_subsumes (T : Tx K mg A) : FnOk P w K mg base CX0 (3) A.a_subsumes A.d_subsumes ["general", "equation"] sp_subsumes := by
  have G_is_instance := ok_is_instance (P := P) (w := w) (base := base) T
  refine T.F_subsumes.ok sc_subsumes (fun vs H Q E h => ?_) (fun cdv Ar outer s0 H vs Q E hr h => ?_)
  · obtain ⟨a, b, e, f, g, h, fs, rfl, _⟩ := h; rfl
  obtain ⟨a, b, e, f, g, h, fs, rfl, ⟨x, y, ha, he, hf⟩, ⟨u, v, hb, hg, hh⟩, hn, oe, of, og, oh, q⟩ := h
  refine ⟨_, (pss_cons (ps_asg (pv 1) (pg_tup (by rfl) (pgs_cons (pg_name (i := 2) sc_subsumes.nd rfl (Or.inl rfl)) (pgs_cons (pg_name (i := 3) sc_subsumes.nd rfl (Or.inl rfl)) pgs_nil))))
    (pss_one (ps_ret (pe_or (pe_call G_is_instance (hr.mono (by omega)) rfl T.m_is_instance T.F_is_instance.kp T.b_is_instance .nil pass0 (pa_cons (pe_tup (pa_cons (pv 2) (pa_cons (pv 3) pa_nil))) (pa_cons (pv 0) pa_nil))) (pe_one (pe_call G_is_instance (hr.mono (by omega)) rfl T.m_is_instance T.F_is_instance.kp T.b_is_instance .nil pass0 (pa_cons (pe_tup (pa_cons (pv 3) (pa_cons (pv 2) pa_nil))) (pa_cons (pv 0) pa_nil)))))))), ?_⟩
  walk_at "rd"
  refine ⟨a, _, rfl, SqT.of ha, rfl, _, _, rfl, _, _, rfl, rfl, ?_⟩
  dsimp only [gName]
  walk_at "rd"
  refine ⟨show 2 ≤ sizeLine by decide, ?_⟩
  first | intro c n1 | refine fun c n1 => ?_
  generalize ehn : upd H c _ = H1
  have s1 := J.al_same n1 ehn
  have h1 := J.al_at ehn
  clear ehn
  have pb := PrTm.tu ⟨u, v, hb, hg, hh⟩ (tu_same s1)
  walk_at "rd"
  refine ⟨c, b, e, f, g, h, fs, rfl, ⟨x, y, h1, he.tu (tu_same s1), hf.tu (tu_same s1)⟩, pb, hn, oe, of, og, oh, fun H2 s2 => ?_⟩
  walk_at "rd"
  cases em : minst e f g h with
  | true =>
    rw [em] at q
    exact q _ (s1.trans s2)
  | false =>
    rw [em] at q
    rw [if_neg (by decide)]
    walk_at "rd"
    refine ⟨show 2 ≤ sizeLine by decide, ?_⟩
    first | intro c2 n3 | refine fun c2 n3 => ?_
    generalize ehn : upd H2 c2 _ = H3
    have s3 := J.al_same n3 ehn
    have h3 := J.al_at ehn
    clear ehn
    have k3 := s1.trans (s2.trans s3)
    walk_at "rd"
    refine ⟨c2, b, f, e, g, h, fs, rfl, ⟨y, x, h3, hf.tu (tu_same k3), he.tu (tu_same k3)⟩, PrTm.tu ⟨u, v, hb, hg, hh⟩ (tu_same k3), hn, of, oe, og, oh, fun H4 s4 => ?_⟩
    walk_at "rd"
    exact q _ (k3.trans s4)

/-! _law_told -/
def sp_u_law_told : Sp := fun vs H Q _ => ∃ (a b : Addr) (e f g h : Tm) (fs : List Str), vs = [.ref b, .ref a] ∧ PrTm H a e f ∧ PrTm H b g h ∧ Names fs ∧ Okk fs e ∧ Okk fs f ∧ Okk fs g ∧ Okk fs h ∧ ∀ H', Same H H' → Q (.bl true) H'
theorem ok_u_law_told (T : Tx K mg A) : FnOk P w K mg base CX0 (64) A.a_u_law_told A.d_u_law_told ["general", "equation"] sp_u_law_told := by
  have G_is_instance := ok_is_instance (P := P) (w := w) (base := base) T
  have G_subsumes := ok_subsumes (P := P) (w := w) (base := base) T
  have G_u_law_is_instance := ok_u_law_is_instance (P := P) (w := w) (base := base) T
  have G_u_law_tells := ok_u_law_tells (P := P) (w := w) (base := base) T
  refine T.F_u_law_told.ok sc_u_law_told (fun vs H Q E h => ?_) (fun cdv Ar outer s0 H vs Q E hr h => ?_)
  · obtain ⟨a, b, e, f, g, h, fs, rfl, _⟩ := h; rfl
  obtain ⟨a, b, e, f, g, h, fs, rfl, hA, hB, hn, oe, of, og, oh, q⟩ := h
  have hA' := hA
  obtain ⟨x, y, ha, he, hf⟩ := hA'
  refine ⟨_, (pss_cons (ps_set (i := 2) sc_u_law_told.nd rfl (Or.inl rfl) (pe_call G_u_law_is_instance (hr.mono (by omega)) rfl T.m_u_law_is_instance T.F_u_law_is_instance.kp T.b_u_law_is_instance .nil pass0 (pa_cons (pv 1) (pa_cons (pv 0) pa_nil))))
    (pss_cons (ps_set (i := 3) sc_u_law_told.nd rfl (Or.inl rfl) (pe_call G_u_law_is_instance (hr.mono (by omega)) rfl T.m_u_law_is_instance T.F_u_law_is_instance.kp T.b_u_law_is_instance .nil pass0 (pa_cons (pe_tup (pa_cons (pe_ix (r := rIxT K) ix_tup (pv 1) pe_int (fun _ _ => rfl)) (pa_cons (pe_ix (r := rIxT K) ix_tup (pv 1) pe_int (fun _ _ => rfl)) pa_nil))) (pa_cons (pv 0) pa_nil))))
    (pss_cons (ps_if (pt_not (pt_val (pe_call G_u_law_tells (hr.mono (by omega)) rfl T.m_u_law_tells T.F_u_law_tells.kp T.b_u_law_tells .nil pass0 (pa_cons (pe_call G_is_instance (hr.mono (by omega)) rfl T.m_is_instance T.F_is_instance.kp T.b_is_instance .nil pass0 (pa_cons (pv 1) (pa_cons (pv 0) pa_nil))) (pa_cons (pv 2) pa_nil))))) (pss_one (ps_ret pe_bl)) pss_nil)
    (pss_one (ps_ret (pe_call G_u_law_tells (hr.mono (by omega)) rfl T.m_u_law_tells T.F_u_law_tells.kp T.b_u_law_tells .nil pass0 (pa_cons (pe_call G_subsumes (hr.mono (by omega)) rfl T.m_subsumes T.F_subsumes.kp T.b_subsumes .nil pass0 (pa_cons (pv 0) (pa_cons (pv 1) pa_nil))) (pa_cons (pe_or (pv 2) (pe_one (pv 3))) pa_nil)))))))), ?_⟩
  walk_at "rd"
  refine ⟨a, b, e, f, g, h, fs, rfl, hA, hB, hn, oe, of, og, oh, fun H1 s1 => ?_⟩
  have ha1 := s1 _ _ ha
  walk_at "rd"
  refine ⟨show 2 ≤ sizeLine by decide, ?_⟩
  first | intro c n2 | refine fun c n2 => ?_
  generalize ehn : upd H1 c _ = H2
  have s2 := J.al_same n2 ehn
  have h2 := J.al_at ehn
  clear ehn
  have k2 := s1.trans s2
  walk_at "rd"
  refine ⟨c, b, f, e, g, h, fs, rfl, ⟨y, x, h2, hf.tu (tu_same k2), he.tu (tu_same k2)⟩, hB.tu (tu_same k2), hn, of, oe, og, oh, fun H3 s3 => ?_⟩
  have k3 := k2.trans s3
  walk_at "rd"
  refine ⟨a, b, e, f, g, h, fs, rfl, hA.tu (tu_same k3), hB.tu (tu_same k3), hn, oe, of, og, oh, fun H4 s4 => ?_⟩
  have k4 := k3.trans s4
  walk_at "rd"
  refine ⟨_, _, rfl, ?_⟩
  rw [beq_self_eq_true]
  walk_at "rd"
  refine ⟨a, b, e, f, g, h, fs, rfl, hA.tu (tu_same k4), hB.tu (tu_same k4), hn, oe, of, og, oh, fun H5 s5 => ?_⟩
  have k5 := k4.trans s5
  cases e1 : minst e f g h with
  | true =>
    walk_at "rd"
    refine ⟨_, _, rfl, ?_⟩
    exact q _ k5
  | false =>
    walk_at "rd"
    refine ⟨_, _, rfl, ?_⟩
    rw [Bool.false_or, beq_self_eq_true]
    exact q _ k5

/-! _law_positions -/
def sp_u_law_positions (N : Nat) : Sp := fun vs H Q _ => ∃ (v : V) (t : Tm), vs = [v] ∧ TmIn H t v ∧ t.sz ≤ 100000 ∧ t.dep ≤ N ∧ ∀ p H', Same H H' → H p = none → PosIn H' p (poss t) → Q (.ref p) H'
theorem st_u_law_positions (T : Tx K mg A) (N : Nat) (G_u_law_positions : FnOk P w K mg base CX0 (N + 1) A.a_u_law_positions A.d_u_law_positions ["term"] (sp_u_law_positions N)) : FnOk P w K mg base CX0 (N + 2) A.a_u_law_positions A.d_u_law_positions ["term"] (sp_u_law_positions (N + 1)) := by

  refine T.F_u_law_positions.ok sc_u_law_positions (fun vs H Q E h => ?_) (fun cdv Ar outer s0 H vs Q E hr h => ?_)
  · obtain ⟨v, t, rfl, _⟩ := h; rfl
  obtain ⟨v, t, rfl, ht, hz, hd, q⟩ := h
  refine ⟨_, (pss_cons (ps_set (i := 1) sc_u_law_positions.nd rfl (Or.inl rfl) (pe_lst (pa_cons (pe_tup pa_nil) pa_nil)))
    (pss_cons (ps_if (pt_val (pe_callB (r := rIsi K) call_isi (by rfl) T.n_isinstance boot_isinstance (pa_cons (pv 0) (pa_cons (pe_bltn (v := .ty "int") (by rfl) T.n_int boot_int rfl) pa_nil)))) (pss_one (ps_ret (pv 1))) pss_nil)
    (pss_cons (ps_for PassesOwn.never rfl (pi_range2 rfl T.n_range (pa_cons pe_int (pa_cons (pe_callB (r := rLenS K) j_len (by rfl) T.n_len PySem.boot_len (pa_cons (pv 0) pa_nil)) pa_nil))) (pg_name (i := 2) sc_u_law_positions.nd rfl (Or.inl rfl)) (pss_one (ps_for PassesOwn.never rfl (pi_list (pe_call G_u_law_positions (hr.mono (by omega)) rfl T.m_u_law_positions T.F_u_law_positions.kp T.b_u_law_positions .nil pass0 (pa_cons (pe_ix (r := rIxT K) ix_tup (pv 0) (pv 2) (fun _ _ => rfl)) pa_nil))) (pg_name (i := 3) sc_u_law_positions.nd rfl (Or.inl rfl)) (pss_one (ps_expr (pe_bm PySem.F.plainAttrs_list PySem.F.slot_list_append PySem.F.type_list_append mt_append (pv 1) (pa_cons (pe_op (r := rCatT K) op_catT (pe_tup (pa_cons (pv 2) pa_nil)) (pv 3)) pa_nil)))))))
    (pss_one (ps_ret (pv 1)))))), ?_⟩
  walk_at "rd"
  refine ⟨by show 0 ≤ sizeLine; decide, ?_⟩
  first | intro e n1 | refine fun e n1 => ?_
  generalize ehn : upd H e _ = H1
  have s1 := J.al_same n1 ehn
  have h1 := J.al_at ehn
  clear ehn
  refine ⟨by show 1 ≤ sizeLine; decide, ?_⟩
  first | intro p n2 | refine fun p n2 => ?_
  generalize ehn : upd H1 p _ = H2
  have s2 := J.al_same n2 ehn
  have h2 := J.al_at ehn
  clear ehn
  have hp0 : PosIn H2 p [[]] := ⟨[e], h2, rfl, fun k a r ea er => by
    have hk : k < 1 := (List.getElem?_eq_some_iff.mp ea).1
    have : k = 0 := by omega
    subst this
    cases ea; cases er
    exact s2 _ _ h1⟩
  have np0 : H p = none := s1.free n2
  cases t with
  | var n =>
    cases (show v = .int n from ht)
    walk_at "ri"
    exact q p H2 (s1.trans s2) np0 hp0
  | app f ts =>
    obtain ⟨a, vs, rfl, ha, hts⟩ := ht
    have hvl := hts.length
    have hz : 1 + Tm.szs ts ≤ 100000 := hz
    have hll := Tm.len_le ts
    have ha2 := s2 _ _ (s1 _ _ ha)
    have hts2 := (hts.tu (tu_same s1)).tu (tu_same s2)
    walk_at "ri"
    refine ⟨1, _, rfl, ⟨by decide, by decide, ?_, ?_⟩, ?_⟩
    · show -(2 ^ 62) ≤ ((vs.length + 1 : Nat) : Int); omega
    · show ((vs.length + 1 : Nat) : Int) < 2 ^ 62; omega
    have en : (((V.str f :: vs).length : Int) - 1).toNat = ts.length := by
      show (((vs.length + 1 : Nat) : Int) - 1).toNat = _
      omega
    rw [en]
    refine for_range (lo := 1) (n := ts.length) (fun i σ' H' => ∃ x y, σ' = [some (.ref a), some (.ref p), x, y] ∧ But p H2 H' ∧ PosIn H' p ([] :: posss 1 (ts.take i))) ?_ ?_ ?_
    · exact ⟨none, none, rfl, But.refl _ _, hp0⟩
    · rintro i σ' H' hi ⟨x, y, rfl, b, hp⟩
      have gt := List.getElem?_eq_getElem hi
      obtain ⟨v1, gv1, hv1⟩ := hts2.get' gt
      have mt : ts[i] ∈ ts := List.getElem_mem hi
      have hst := Tm.sz_arg mt
      have tub : Tu H2 H' := but_tu b (lst_not_tup h2)
      have e1 : (1 : Int) + (i : Int) = ((i + 1 : Nat) : Int) := by omega
      have gt1 : atI (V.str f :: vs) ((1 : Int) + (i : Int)) = some v1 := by rw [e1]; exact atI_nat (j := i + 1) (by rw [List.getElem?_cons_succ]; exact gv1)
      have ha3 := tub _ _ ha2
      walk_at "rd"
      refine ⟨v1, ts[i], rfl, hv1.tu tub, by omega, TmIn.dep_arg hd mt, fun p3 H3 s3 n3 hp3 => ?_⟩
      have hpp := hp.same s3
      have n33 : p3 ≠ p := fun z => by
        obtain ⟨as, e, _⟩ := hp
        rw [z, e] at n3; cases n3
      obtain ⟨as3, g3, l3, f3⟩ := hp3
      refine ⟨_, rfl, ⟨_, SqL.of g3⟩, for_list (K := K) (a := p3) (xs := as3.map V.ref) (fun j σ' H'' => ∃ y, σ' = [some (.ref a), some (.ref p), some (.int (1 + (i : Int))), y] ∧ But p H3 H'' ∧ PosIn H'' p ([] :: posss 1 (ts.take i) ++ ((poss ts[i]).take j).map (fun q => (1 + (i : Int)) :: q))) ?_ ?_ ?_ ?_⟩
      · exact ⟨_, rfl, But.refl _ _, by rw [List.take_zero, List.map_nil, List.append_nil]; exact hpp⟩
      · rintro j σ' H'' hj ⟨y, rfl, b4, hp4⟩
        exact SqL.of (b4 _ _ g3 n33)
      · rintro j y2 σ' H'' hj ⟨y, rfl, b4, hp4⟩
        have hj' : j < as3.length := by
          have := (List.getElem?_eq_some_iff.mp hj).1
          rw [List.length_map] at this; exact this
        have gj := List.getElem?_eq_getElem (l := poss ts[i]) (i := j) (by omega)
        have ej : y2 = .ref as3[j] := by
          rw [List.getElem?_map, List.getElem?_eq_getElem hj'] at hj
          exact (Option.some.inj hj).symm
        subst ej
        have hin := f3 j _ _ (List.getElem?_eq_getElem hj') gj
        have npl : ∀ xs, H3 p ≠ some (.tup xs) := by
          obtain ⟨as, e, _⟩ := hpp
          exact lst_not_tup e
        have tu4 : Tu H3 H'' := but_tu b4 npl
        obtain ⟨as4, g4, l4, f4⟩ := hp4
        walk_at "rd"
        refine ⟨.inl ⟨rfl, _, SqL.of g4⟩, ?_⟩
        walk_at "rd"
        refine ⟨by show 1 ≤ sizeLine; decide, ?_⟩
        first | intro t1 n5 | refine fun t1 n5 => ?_
        generalize ehn : upd H'' t1 _ = H5
        have s5 := J.al_same n5 ehn
        have h5 := J.al_at ehn
        clear ehn
        have hin5 := s5 _ _ (tu4 _ _ hin)
        walk_at "rd"
        have hq := (poss_is _ _ (List.mem_of_getElem? gj)).2
        have hdt := TmIn.dep_arg hd mt
        have lens : as4.length ≤ 100001 := by
          rw [l4, List.length_append, List.length_map, List.length_take, List.length_cons, posss_len]
          have h1 := szs_take ts i
          have h2 := poss_len ts[i]
          have h3 : Tm.szs (ts.take i) + ts[i].sz ≤ Tm.szs ts := by
            have := szs_take ts (i + 1)
            rw [list_take_succ gt, szs_app] at this
            have e : Tm.szs [ts[i]] = ts[i].sz := by show ts[i].sz + 0 = _; omega
            omega
          omega
        have e2 : (poss ts[i]).take (j + 1) = (poss ts[i]).take j ++ [(poss ts[i])[j]] := list_take_succ gj
        have fin : ∀ (b0 : Addr) (H6 : Hp), Same H'' H6 → H6 b0 = some (.tup (((1 + (i : Int)) :: (poss ts[i])[j]).map V.int)) → PosIn (upd H6 p (.lst (as4.map V.ref ++ [.ref b0]))) p ([] :: posss 1 (ts.take i) ++ ((poss ts[i]).take (j + 1)).map (fun q => (1 + (i : Int)) :: q)) := by
          intro b0 H6 s6 h6
          have hp6 := s6 _ _ g4
          rw [e2, List.map_append, ← List.append_assoc]
          refine PosIn.push (as := as4) g4 l4 f4 ((tu_same s6).trans (tu_upd (lst_not_tup hp6))) upd_same ?_
          rw [upd_ne fun z => by rw [z, hp6] at h6; cases h6]
          exact h6
        refine ⟨t1, _, _, _, rfl, rfl, SqT.of h5, SqT.of hin5, List.cons_ne_nil _ _, ?_, fun z => ?_, fun _ => ?_⟩
        · rw [List.length_map]
          show 0 + 1 + _ ≤ _
          have hN : ts[i].dep ≤ 100000 := by have := Tm.dep_le_sz ts[i]; omega
          exact Nat.le_trans (show 0 + 1 + (poss ts[i])[j].length ≤ 100001 by omega) (by decide)
        · have z : (poss ts[i])[j] = [] := List.map_eq_nil_iff.mp z
          refine ⟨p, _, _, rfl, rfl, s5 _ _ g4, by rw [List.length_map]; exact Nat.lt_of_le_of_lt lens (by decide), _, rfl, b4.trans ((but_same s5).trans (but_upd _)), fin t1 H5 s5 ?_⟩
          rw [z]; exact h5
        · first | intro t2 n6 | refine fun t2 n6 => ?_
          generalize ehn : upd H5 t2 _ = H6
          have s6 := J.al_same n6 ehn
          have h6 := J.al_at ehn
          clear ehn
          exact ⟨p, _, _, rfl, rfl, s6 _ _ (s5 _ _ g4), by rw [List.length_map]; exact Nat.lt_of_le_of_lt lens (by decide), _, rfl, b4.trans ((but_same s5).trans ((but_same s6).trans (but_upd _))), fin t2 H6 (s5.trans s6) h6⟩
      · rintro σ' H'' ⟨y, rfl, b4, hp4⟩
        rw [List.length_map, l3, List.take_length] at hp4
        refine ⟨_, _, rfl, b.trans ((but_same s3).trans b4), ?_⟩
        rw [list_take_succ gt, posss_app, List.length_take, Nat.min_eq_left (by omega)]
        show PosIn H'' p ([] :: (posss 1 (ts.take i) ++ ((poss ts[i]).map (fun q => (((1 + i : Nat) : Int)) :: q) ++ [])))
        rw [List.append_nil, show (((1 + i : Nat) : Int)) = 1 + (i : Int) by omega]
        exact hp4
    · rintro σ' H' ⟨x, y, rfl, b, hp⟩
      rw [List.take_length] at hp
      walk_at "rd"
      exact q p H' (b.same (s1.trans s2) np0) np0 hp

theorem all_u_law_positions (T : Tx K mg A) : ∀ N : Nat, FnOk P w K mg base CX0 (N + 1) A.a_u_law_positions A.d_u_law_positions ["term"] (sp_u_law_positions N)
  | 0 => fn_none fun vs H Q E h => by obtain ⟨v, t, _, _, _, hd, _⟩ := h; have := t.dep_pos; omega
  | N + 1 => st_u_law_positions T N (all_u_law_positions T N)
theorem ok_u_law_positions (T : Tx K mg A) : FnOk P w K mg base CX0 61 A.a_u_law_positions A.d_u_law_positions ["term"] (sp_u_law_positions 60) := all_u_law_positions T 60

/-! _law_replace -/
def sp_u_law_replace (N : Nat) : Sp := fun vs H Q _ => ∃ (v w : V) (t u : Tm) (a : Addr) (q : List Int), vs = [v, .ref a, w] ∧ TmIn H t v ∧ TmIn H u w ∧ H a = some (.tup (q.map V.int)) ∧ IsPos q t ∧ q.length < N ∧ t.sz ≤ 100000 ∧ ∀ r H', Same H H' → TmIn H' (rep u q t) r → Q r H'
theorem st_u_law_replace (T : Tx K mg A) (N : Nat) (G_u_law_replace : FnOk P w K mg base CX0 (N + 1) A.a_u_law_replace A.d_u_law_replace ["term", "position", "new"] (sp_u_law_replace N)) : FnOk P w K mg base CX0 (N + 2) A.a_u_law_replace A.d_u_law_replace ["term", "position", "new"] (sp_u_law_replace (N + 1)) := by

  refine T.F_u_law_replace.ok sc_u_law_replace (fun vs H Q E h => ?_) (fun cdv Ar outer s0 H vs Q E hr h => ?_)
  · obtain ⟨v, w, t, u, a, q, rfl, _⟩ := h; rfl
  obtain ⟨v, w, t, u, a, q, rfl, ht, hu', hq, ip, hl, hz, q0⟩ := h
  refine ⟨_, (pss_cons (ps_if (pt_cmpR op_eq (pe_callB (r := rLenS K) j_len (by rfl) T.n_len PySem.boot_len (pa_cons (pv 1) pa_nil)) pe_int (nomark _)) (pss_one (ps_ret (pv 2))) pss_nil)
    (pss_cons (ps_set (i := 3) sc_u_law_replace.nd rfl (Or.inl rfl) (pe_ix (r := rIxT K) ix_tup (pv 1) pe_int (fun _ _ => rfl)))
    (pss_one (ps_ret (pe_op (r := rCatT K) op_catT (pe_op (r := rCatT K) op_catT (pe_slice (r := rSlT K) sl_tup (pv 0) po_none (po_some (pv 3))) (pe_tup (pa_cons (pe_call G_u_law_replace (hr.mono (by omega)) rfl T.m_u_law_replace T.F_u_law_replace.kp T.b_u_law_replace .nil pass0 (pa_cons (pe_ix (r := rIxT K) ix_tup (pv 0) (pv 3) (fun _ _ => rfl)) (pa_cons (pe_slice (r := rSlT K) sl_tup (pv 1) (po_some pe_int) po_none) (pa_cons (pv 2) pa_nil)))) pa_nil))) (pe_slice (r := rSlT K) sl_tup (pv 0) (po_some (pe_op op_add (pv 3) pe_int)) po_none)))))), ?_⟩
  cases q with
  | nil =>
    walk_at "ri"
    exact q0 w H (Same.refl _) hu'
  | cons k q =>
    cases t with
    | var n => exact ip.elim
    | app f ts =>
      obtain ⟨hk1, t, gt, ip⟩ := ip
      obtain ⟨b, vs, rfl, hb, hts⟩ := ht
      obtain ⟨j, rfl⟩ : ∃ j : Nat, k = ((j + 1 : Nat) : Int) := ⟨(k - 1).toNat, by omega⟩
      have ej : (((j + 1 : Nat) : Int) - 1).toNat = j := by omega
      rw [ej] at gt
      have hj : j < ts.length := (List.getElem?_eq_some_iff.mp gt).1
      obtain ⟨v1, gv1, hv1⟩ := hts.get' gt
      have hvl := hts.length
      have hll := Tm.len_le ts
      have hz : 1 + Tm.szs ts ≤ 100000 := hz
      have hst := Tm.sz_arg (List.mem_of_getElem? gt)
      have hq' : H a = some (.tup (.int ((j + 1 : Nat) : Int) :: q.map V.int)) := hq
      walk_at "ri"
      refine ⟨b, _, rfl, SqT.of hb, notLo (k := j + 1) (by rw [List.length_cons]; omega), ?_⟩
      rw [cutLo]
      first | intro p1 n1 | refine fun p1 n1 => ?_
      generalize ehn : upd H p1 _ = H1
      have s1 := J.al_same n1 ehn
      have h1 := J.al_at ehn
      clear ehn
      replace hb := s1 _ _ hb
      have hq1 := s1 _ _ hq'
      walk_at "rd"
      refine ⟨b, _, _, v1, rfl, rfl, SqT.of hb, atI_nat (j := j + 1) (by rw [List.getElem?_cons_succ]; exact gv1), ?_⟩
      walk_at "rd"
      walk_at "sl1"
      first | intro p2 n2 | refine fun p2 n2 => ?_
      generalize ehn : upd H1 p2 _ = H2
      have s2 := J.al_same n2 ehn
      have h2 := J.al_at ehn
      clear ehn
      walk_at "rd"
      have tu2 := tu_same (s1.trans s2)
      refine ⟨v1, w, t, u, p2, q, rfl, hv1.tu tu2, hu'.tu tu2, h2, ip, by rw [List.length_cons] at hl; omega, by omega, fun r H3 s3 hr3 => ?_⟩
      refine ⟨by show 1 ≤ sizeLine; decide, ?_⟩
      first | intro p3 n4 | refine fun p3 n4 => ?_
      generalize ehn : upd H3 p3 _ = H4
      have s4 := J.al_same n4 ehn
      have h4 := J.al_at ehn
      clear ehn
      have tu24 := tu_same (s3.trans s4)
      have h14 := tu24 _ _ (s2 _ _ h1)
      have hb4 := tu24 _ _ (s2 _ _ hb)
      have e1 : (V.str f :: vs).take (j + 1) = .str f :: vs.take j := rfl
      rw [e1] at h14
      refine ⟨p1, p3, _, _, rfl, rfl, SqT.of h14, SqT.of h4, List.cons_ne_nil _ _, ?_, fun z => absurd z (List.cons_ne_nil _ _), fun _ => ?_⟩
      · rw [List.length_cons, List.length_take]
        exact Nat.le_trans (show min j vs.length + 1 + 1 ≤ 100002 by omega) (by decide)
      first | intro p5 n5 | refine fun p5 n5 => ?_
      generalize ehn : upd H4 p5 _ = H5
      have s5 := J.al_same n5 ehn
      have h5 := J.al_at ehn
      clear ehn
      replace hb4 := s5 _ _ hb4
      walk_at "rd"
      have e3 : ((((j + 1 : Nat) : Int)) + 1) = ((j + 2 : Nat) : Int) := by omega
      rw [e3]
      refine ⟨b, _, rfl, SqT.of hb4, notHi (k := j + 2) (by omega) (by rw [List.length_cons]; omega), ?_⟩
      rw [cutHi]
      have e2 : (V.str f :: vs).drop (j + 2) = vs.drop (j + 1) := rfl
      rw [e2]
      first | intro p6 n6 | refine fun p6 n6 => ?_
      generalize ehn : upd H5 p6 _ = H6
      have s6 := J.al_same n6 ehn
      have h6 := J.al_at ehn
      clear ehn
      have tuF : Tu H H4 := tu2.trans tu24
      have h56 := s6 _ _ h5
      have key : ∀ (b0 : Addr) (H7 : Hp), Same H6 H7 → H7 b0 = some (.tup ((.str f :: vs.take j ++ [r]) ++ vs.drop (j + 1))) → Q (.ref b0) H7 := by
        intro b0 H7 s7 h7
        have s47 : Same H4 H7 := s5.trans (s6.trans s7)
        have tu47 := tu_same s47
        refine q0 _ H7 (s1.trans (s2.trans (s3.trans (s4.trans s47)))) ?_
        have er : rep u (((j + 1 : Nat) : Int) :: q) (.app f ts) = .app f (ts.take j ++ [rep u q t] ++ ts.drop (j + 1)) := by
          show Tm.app f (ts.set (((j + 1 : Nat) : Int) - 1).toNat (rep u q (ts.getD (((j + 1 : Nat) : Int) - 1).toNat u))) = _
          rw [ej, List.getD_eq_getElem?_getD, gt, set_cut hj]; rfl
        rw [er]
        refine ⟨b0, vs.take j ++ [r] ++ vs.drop (j + 1), rfl, h7, ?_⟩
        have tu07 := tuF.trans tu47
        exact ((((hts.take j).tu tu07).append (TmsIn.one ((hr3.tu (tu_same s4)).tu tu47)))).append ((hts.drop (j + 1)).tu tu07)
      refine ⟨p5, p6, _, _, rfl, rfl, SqT.of h56, SqT.of h6, List.cons_ne_nil _ _, ?_, fun z => ?_, fun _ => ?_⟩
      · show (V.str f :: vs.take j ++ [r]).length + _ ≤ _
        rw [List.length_append, List.length_cons, List.length_take, List.length_drop]
        exact Nat.le_trans (show min j vs.length + 1 + 1 + (vs.length - (j + 1)) ≤ 200004 by omega) (by decide)
      · refine key p5 H6 (Same.refl _) ?_
        rw [z, List.append_nil]; exact h56
      · first | intro p7 n7 | refine fun p7 n7 => ?_
        generalize ehn : upd H6 p7 _ = H7
        have s7 := J.al_same n7 ehn
        have h7 := J.al_at ehn
        clear ehn
        exact key p7 H7 s7 h7

theorem all_u_law_replace (T : Tx K mg A) : ∀ N : Nat, FnOk P w K mg base CX0 (N + 1) A.a_u_law_replace A.d_u_law_replace ["term", "position", "new"] (sp_u_law_replace N)
  | 0 => fn_none fun vs H Q E h => by obtain ⟨v, w, t, u, a, q, _, _, _, _, _, hl, _⟩ := h; omega
  | N + 1 => st_u_law_replace T N (all_u_law_replace T N)
theorem ok_u_law_replace (T : Tx K mg A) : FnOk P w K mg base CX0 61 A.a_u_law_replace A.d_u_law_replace ["term", "position", "new"] (sp_u_law_replace 60) := all_u_law_replace T 60

/-! _law_spoilt -/
def sp_u_law_spoilt : Sp := fun vs H Q _ => ∃ (s l o : Addr) (fs : List Str) (B C : Int) (v : V) (t : Tm), vs = [.ref s, .ref o, .int B, v] ∧ St H s l ∧ Ops H o fs ∧ 0 ≤ B ∧ B ≤ C ∧ B ≤ 1000 ∧ TmIn H t v ∧ t.wf fs C ∧ t.sz ≤ 9000 ∧ t.dep ≤ 50 ∧
  ∀ r u H', But s H H' → St H' s l → TmIn H' u r → u.wf fs C → u.sz ≤ t.sz + 4 → u.dep ≤ t.dep + 2 → Q r H'
theorem ok_u_law_spoilt (T : Tx K mg A) : FnOk P w K mg base CX0 (62) A.a_u_law_spoilt A.d_u_law_spoilt ["state", "operations", "count", "term"] sp_u_law_spoilt := by
  have G_u_law_draw := ok_u_law_draw (P := P) (w := w) (base := base) T
  have G_u_law_positions := ok_u_law_positions (P := P) (w := w) (base := base) T
  have G_u_law_replace := ok_u_law_replace (P := P) (w := w) (base := base) T
  have G_u_law_term := ok_u_law_term (P := P) (w := w) (base := base) T
  refine T.F_u_law_spoilt.ok sc_u_law_spoilt (fun vs H Q E h => ?_) (fun cdv Ar outer s0 H vs Q E hr h => ?_)
  · obtain ⟨s, l, o, fs, B, C, v, t, rfl, _⟩ := h; rfl
  obtain ⟨s, l, o, fs, B, C, v, t, rfl, st, op, B0, BC, B1, ht, wt, zt, dt, q0⟩ := h
  refine ⟨_, (pss_cons (ps_set (i := 4) sc_u_law_spoilt.nd rfl (Or.inl rfl) (pe_call G_u_law_positions (hr.mono (by omega)) rfl T.m_u_law_positions T.F_u_law_positions.kp T.b_u_law_positions .nil pass0 (pa_cons (pv 3) pa_nil)))
    (pss_cons (ps_set (i := 5) sc_u_law_spoilt.nd rfl (Or.inl rfl) (pe_ix (r := rIxL K) ix_list (pv 4) (pe_call G_u_law_draw (hr.mono (by omega)) rfl T.m_u_law_draw T.F_u_law_draw.kp T.b_u_law_draw .nil pass0 (pa_cons (pv 0) (pa_cons (pe_callB (r := rLenS K) j_len (by rfl) T.n_len PySem.boot_len (pa_cons (pv 4) pa_nil)) pa_nil))) (fun _ _ => rfl)))
    (pss_one (ps_ret (pe_call G_u_law_replace (hr.mono (by omega)) rfl T.m_u_law_replace T.F_u_law_replace.kp T.b_u_law_replace .nil pass0 (pa_cons (pv 3) (pa_cons (pv 5) (pa_cons (pe_call G_u_law_term (hr.mono (by omega)) rfl T.m_u_law_term T.F_u_law_term.kp T.b_u_law_term .nil pass0 (pa_cons (pv 0) (pa_cons (pv 1) (pa_cons (pv 2) (pa_cons pe_int pa_nil))))) pa_nil)))))))), ?_⟩
  have tz := t.sz_pos
  walk_at "rd"
  refine ⟨v, t, rfl, ht, by omega, by omega, fun pl H1 s1 n1 h1 => ?_⟩
  obtain ⟨ps, hp, hl, hg⟩ := h1
  have h1 : PosIn H1 pl (poss t) := ⟨ps, hp, hl, hg⟩
  have plen := poss_len t
  have st1 := st.same s1
  have op1 := op.same s1
  have pls : pl ≠ s := (st.free n1).1.symm
  iterate 3 refine ⟨_, rfl, ?_⟩
  refine ⟨pl, _, rfl, .inl (SqL.of hp), ?_⟩
  rw [List.length_map, hl, plen]
  walk_at "rd"
  refine ⟨s, l, (t.sz : Int), rfl, st1, by omega, by omega, fun k H2 k0 k1 b2 st2 => ?_⟩
  have tu12 := st1.tu b2
  have op2 := op1.but st1 b2
  obtain ⟨k, rfl⟩ := Int.eq_ofNat_of_zero_le k0
  have hk : k < (poss t).length := by omega
  obtain ⟨xs, pa, q, g1, g2, g3, g4, g5⟩ := h1.get hk
  refine ⟨pl, xs, _, _, rfl, rfl, SqL.of (b2 _ _ g1 pls), atI_nat g3, ?_⟩
  obtain ⟨ip, il⟩ := poss_is t q (List.mem_of_getElem? g4)
  obtain ⟨c0, hc0⟩ := (isPos_at q t).mp ip
  have g6 := tu12 _ _ g5
  have ht2 := ht.tu ((tu_same s1).trans tu12)
  have b02 : But s H H2 := (but_same s1).trans b2
  walk_at "rd"
  refine ⟨s, l, o, fs, B, 1, by omega, rfl, st2, op2, B0, by omega, fun wv W H3 b3 st3 hW wW dW zW => ?_⟩
  have zW : W.sz ≤ 4 := by have e : (3 : Nat) ^ (1 + 1) = 9 := rfl; omega
  have dW : W.dep ≤ 2 := dW
  have tu3 := st2.tu b3
  have rz := rep_sz W q t c0 hc0
  have rd := (rep_dep W q t ip).1
  refine ⟨v, wv, t, W, pa, q, rfl, ht2.tu tu3, hW, tu3 _ _ g6, ip, by omega, by omega, fun r H4 s4 hr => ?_⟩
  exact q0 r _ H4 (b02.trans (b3.trans (but_same s4))) (st3.same s4) hr (rep_wf (wW.mono BC) q t wt ip) (by omega) (by omega)

/-! law -/
def sp_law (K : PySem.W.Frag) : Sp := fun vs H Q _ => ∃ (a : Addr) (ns : List Int), vs = [.ref a] ∧ SqL K H a (ns.map V.int) ∧ ns.length ≤ 63 ∧ ∀ H', Q (.bl true) H'
theorem ok_law (T : Tx K mg A) : FnOk P w K mg base CX0 70 A.a_law A.d_law ["script"] (sp_law K) := by
  have G_u_law_draw := ok_u_law_draw (P := P) (w := w) (base := base) T
  have G_u_law_operations := ok_u_law_operations (P := P) (w := w) (base := base) T
  have G_u_law_spoilt := ok_u_law_spoilt (P := P) (w := w) (base := base) T
  have G_u_law_state := ok_u_law_state (P := P) (w := w) (base := base) T
  have G_u_law_substitute := ok_u_law_substitute (P := P) (w := w) (base := base) T
  have G_u_law_term := ok_u_law_term (P := P) (w := w) (base := base) T
  have G_u_law_told := ok_u_law_told (P := P) (w := w) (base := base) T
  have G_u_law_values := ok_u_law_values (P := P) (w := w) (base := base) T
  refine T.F_law.ok sc_law (fun vs H Q E h => ?_) (fun cdv Ar outer s0 H vs Q E hr h => ?_)
  · obtain ⟨a, ns, rfl, _⟩ := h; rfl
  obtain ⟨a, ns, rfl, hS, h63, q⟩ := h
  refine ⟨_, (pss_cons (ps_set (i := 1) sc_law.nd rfl (Or.inl rfl) (pe_call G_u_law_state (hr.mono (by omega)) rfl T.m_u_law_state T.F_u_law_state.kp T.b_u_law_state .nil pass0 (pa_cons (pv 0) pa_nil)))
    (pss_cons (ps_set (i := 2) sc_law.nd rfl (Or.inl rfl) (pe_call G_u_law_operations (hr.mono (by omega)) rfl T.m_u_law_operations T.F_u_law_operations.kp T.b_u_law_operations .nil pass0 (pa_cons (pv 1) pa_nil)))
    (pss_cons (ps_set (i := 3) sc_law.nd rfl (Or.inl rfl) (pe_tup (pa_cons (pe_call G_u_law_term (hr.mono (by omega)) rfl T.m_u_law_term T.F_u_law_term.kp T.b_u_law_term .nil pass0 (pa_cons (pv 1) (pa_cons (pv 2) (pa_cons pe_int (pa_cons pe_int pa_nil))))) (pa_cons (pe_call G_u_law_term (hr.mono (by omega)) rfl T.m_u_law_term T.F_u_law_term.kp T.b_u_law_term .nil pass0 (pa_cons (pv 1) (pa_cons (pv 2) (pa_cons pe_int (pa_cons pe_int pa_nil))))) pa_nil))))
    (pss_cons (ps_set (i := 4) sc_law.nd rfl (Or.inl rfl) (pe_call G_u_law_values (hr.mono (by omega)) rfl T.m_u_law_values T.F_u_law_values.kp T.b_u_law_values .nil pass0 (pa_cons (pv 1) (pa_cons (pv 2) (pa_cons pe_int (pa_cons pe_int pa_nil))))))
    (pss_cons (ps_set (i := 5) sc_law.nd rfl (Or.inl rfl) (pe_call G_u_law_substitute (hr.mono (by omega)) rfl T.m_u_law_substitute T.F_u_law_substitute.kp T.b_u_law_substitute .nil pass0 (pa_cons (pe_ix (r := rIxT K) ix_tup (pv 3) pe_int (fun _ _ => rfl)) (pa_cons (pv 4) pa_nil))))
    (pss_cons (ps_set (i := 6) sc_law.nd rfl (Or.inl rfl) (pe_call G_u_law_substitute (hr.mono (by omega)) rfl T.m_u_law_substitute T.F_u_law_substitute.kp T.b_u_law_substitute .nil pass0 (pa_cons (pe_ix (r := rIxT K) ix_tup (pv 3) pe_int (fun _ _ => rfl)) (pa_cons (pv 4) pa_nil))))
    (pss_cons (ps_set (i := 7) sc_law.nd rfl (Or.inl rfl) (pe_call G_u_law_draw (hr.mono (by omega)) rfl T.m_u_law_draw T.F_u_law_draw.kp T.b_u_law_draw .nil pass0 (pa_cons (pv 1) (pa_cons pe_int pa_nil))))
    (pss_cons (ps_if (pt_cmpR op_eq (pe_op op_mod (pv 7) pe_int) pe_int (nomark _)) (pss_one (ps_par (i := 5) (j := 6) (by rfl) sc_law.nd rfl rfl (by decide) rfl rfl (pa_cons (pv 6) (pa_cons (pv 5) pa_nil)) rfl)) pss_nil)
    (pss_cons (ps_if (pt_cmpR op_eq (pe_op op_fdiv (pv 7) pe_int) pe_int (nomark _)) (pss_one (ps_set (i := 6) sc_law.nd rfl (Or.inl rfl) (pe_call G_u_law_spoilt (hr.mono (by omega)) rfl T.m_u_law_spoilt T.F_u_law_spoilt.kp T.b_u_law_spoilt .nil pass0 (pa_cons (pv 1) (pa_cons (pv 2) (pa_cons pe_int (pa_cons (pv 6) pa_nil))))))) pss_nil)
    (pss_cons (ps_set (i := 8) sc_law.nd rfl (Or.inl rfl) (pe_tup (pa_cons (pv 5) (pa_cons (pv 6) pa_nil))))
    (pss_cons (ps_for PassesOwn.never rfl (pi_range1 rfl T.n_range (pa_cons pe_int pa_nil)) (pg_name (i := 9) sc_law.nd rfl (Or.inl rfl)) (pss_one (ps_if (PW.pt (pw_or (pt_not (pt_val (pe_call G_u_law_told (hr.mono (by omega)) rfl T.m_u_law_told T.F_u_law_told.kp T.b_u_law_told .nil pass0 (pa_cons (pv 3) (pa_cons (pv 8) pa_nil))))) (pw_or1 (pt_not (pt_val (pe_call G_u_law_told (hr.mono (by omega)) rfl T.m_u_law_told T.F_u_law_told.kp T.b_u_law_told .nil pass0 (pa_cons (pv 8) (pa_cons (pv 3) pa_nil)))))))) (pss_one (ps_ret pe_bl)) pss_nil)))
    (pss_one (ps_ret (pe_call G_u_law_told (hr.mono (by omega)) rfl T.m_u_law_told T.F_u_law_told.kp T.b_u_law_told .nil pass0 (pa_cons (pv 3) (pa_cons (pv 3) pa_nil)))))))))))))))), ?_⟩
  walk_at "rd"
  refine ⟨a, ns, rfl, hS, h63, fun s l H1 s1 n1 _ st1 => ?_⟩
  walk_at "rd"
  refine ⟨s, l, rfl, st1, fun o fs H2 b2 st2 no op2 => ?_⟩
  have hn := op2.1
  walk_at "rd"
  refine ⟨s, l, o, fs, 3, 2, by omega, rfl, st2, op2, by decide, by decide, fun gv g H3 b3 st3 hg wg dg zg => ?_⟩
  have zg : g.sz ≤ 13 := by have e : (3 : Nat) ^ (2 + 1) = 27 := rfl; omega
  have dg : g.dep ≤ 3 := dg
  have op3 := op2.but st2 b3
  walk_at "rd"
  refine ⟨s, l, o, fs, 3, 2, by omega, rfl, st3, op3, by decide, by decide, fun hv h H4 b4 st4 hh wh dh zh => ?_⟩
  have zh : h.sz ≤ 13 := by have e : (3 : Nat) ^ (2 + 1) = 27 := rfl; omega
  have dh : h.dep ≤ 3 := dh
  have op4 := op3.but st3 b4
  have hg4 := hg.tu (st3.tu b4)
  walk_at "rd"
  refine ⟨show 2 ≤ sizeLine by decide, ?_⟩
  first | intro gp n5 | refine fun gp n5 => ?_
  generalize ehn : upd H4 gp _ = H5
  have s5 := J.al_same n5 ehn
  have h5 := J.al_at ehn
  clear ehn
  have st5 := st4.same s5
  have op5 := op4.same s5
  have hg5 := hg4.tu (tu_same s5)
  have hh5 := hh.tu (tu_same s5)
  dsimp only [gName]
  refine at_state (t := tSeq _ _) (σ' := [some (.ref a), some (.ref s), some (.ref o), some (.ref gp), none, none, none, none, none, none]) rfl ?_
  walk_at "rd"
  refine ⟨s, l, o, fs, 3, 3, rfl, st5, op5, by decide, by decide, by decide, fun d kvs tb H6 b6 st6 nd hd htb hval hall => ?_⟩
  have op6 := op5.but st5 b6
  have hg6 := hg5.tu (st5.tu b6)
  have hh6 := hh5.tu (st5.tu b6)
  have h6 := b6 _ _ h5 (st5.ne_tup h5)
  have hsub : ∀ t : Tm, t.wf fs 3 → t.sz ≤ 13 → t.dep ≤ 3 → (sub (look tb) t).wf fs 3 ∧ (sub (look tb) t).sz ≤ 169 ∧ (sub (look tb) t).dep ≤ 5 := fun t w1 z1 d1 => by
    have ov : ∀ n ∈ occ t, ((look tb n).getD (.var n)).wf fs 3 ∧ ((look tb n).getD (.var n)).sz ≤ 13 ∧ ((look tb n).getD (.var n)).dep ≤ 1 + 2 := fun n hn => by
      cases e : look tb n with
      | none => exact ⟨occ_wf t w1 n hn, by show 1 ≤ 13; decide, by show 1 ≤ 3; decide⟩
      | some u =>
        have := hval _ (look_mem e)
        exact this.2
    have := sub_szM (look tb) 13 2 (by decide) t fun n hn => (ov n hn).2
    exact ⟨sub_wf (look tb) t w1 fun n hn => (ov n hn).1, by omega, by omega⟩
  obtain ⟨wg1, zg1, dg1⟩ := hsub g wg zg dg
  obtain ⟨wh1, zh1, dh1⟩ := hsub h wh zh dh
  walk_at "rd"
  refine ⟨gv, g, d, look tb, rfl, hg6, TbIn.sb hd htb, by omega, by omega, fun xv H7 s7 hx7 => ?_⟩
  have h7 := s7 _ _ h6
  walk_at "rd"
  refine ⟨hv, h, d, look tb, rfl, hh6.tu (tu_same s7), TbIn.sb (s7 _ _ hd) (htb.tu (tu_same s7)), by omega, by omega, fun yv H8 s8 hy8 => ?_⟩
  have hx8 := hx7.tu (tu_same s8)
  have k68 := s7.trans s8
  have st8 := st6.same k68
  have op8 := op6.same k68
  have hg8 := hg6.tu (tu_same k68)
  have hh8 := hh6.tu (tu_same k68)
  have h8 := s8 _ _ h7
  generalize sub (look tb) g = e at hx8 wg1 zg1 dg1 hx7
  generalize sub (look tb) h = f at hy8 wh1 zh1 dh1
  dsimp only [gName]
  refine at_state (t := tSeq _ _) (σ' := [some (.ref a), some (.ref s), some (.ref o), some (.ref gp), some (.ref d), some xv, some yv, none, none, none]) rfl ?_
  walk_at "rd"
  refine ⟨s, l, 4, rfl, st8, by decide, by decide, fun kd H9 r0 r1 b9 st9 => ?_⟩
  have op9 := op8.but st8 b9
  have tu9 := st8.tu b9
  have hg9 := hg8.tu tu9
  have hh9 := hh8.tu tu9
  have hx9 := hx8.tu tu9
  have hy9 := hy8.tu tu9
  have h9 := tu9 _ _ h8
  dsimp only [gName]
  refine seq_join (t := tIfS _ _ _) (fun σ' H10 => H10 = H9 ∧ ∃ (xv yv : V) (e f : Tm), σ' = [some (.ref a), some (.ref s), some (.ref o), some (.ref gp), some (.ref d), some xv, some yv, some (.int kd), none, none] ∧ TmIn H9 e xv ∧ TmIn H9 f yv ∧ Okk fs e ∧ Okk fs f ∧ f.sz ≤ 200 ∧ f.dep ≤ 8) ?_ (fun N' cont => ?_)
  · rintro σ' H10 ⟨rfl, xv, yv, e, f, rfl, hx10, hy10, oe, of, zf, df⟩
    refine seq_join (t := tIfS _ _ _) (fun σ' H11 => But s H10 H11 ∧ ∃ (yv : V) (f : Tm), σ' = [some (.ref a), some (.ref s), some (.ref o), some (.ref gp), some (.ref d), some xv, some yv, some (.int kd), none, none] ∧ TmIn H11 f yv ∧ Okk fs f) ?_ (fun N' cont => ?_)
    · rintro σ' H11 ⟨b11, yv, f, rfl, hy11, of⟩
      have tu11 := st9.tu b11
      have hx11 := hx10.tu tu11
      have hg11 := hg9.tu tu11
      have hh11 := hh9.tu tu11
      have h11 := tu11 _ _ h9
      walk_at "rd"
      refine ⟨show 2 ≤ sizeLine by decide, ?_⟩
      first | intro ep n12 | refine fun ep n12 => ?_
      generalize ehn : upd H11 ep _ = H12
      have s12 := J.al_same n12 ehn
      have h12 := J.al_at ehn
      clear ehn
      have pe : PrTm H12 ep e f := ⟨_, _, h12, hx11.tu (tu_same s12), hy11.tu (tu_same s12)⟩
      have pg : PrTm H12 gp g h := ⟨_, _, s12 _ _ h11, hg11.tu (tu_same s12), hh11.tu (tu_same s12)⟩
      have og : Okk fs g := ⟨wg, by omega, by omega⟩
      have oh : Okk fs h := ⟨wh, by omega, by omega⟩
      walk_at "rd"
      refine ⟨by decide, by decide, for_range (lo := 0) (n := 2) (fun i σ' H' => ∃ (x9 : Option V), σ' = [some (.ref a), some (.ref s), some (.ref o), some (.ref gp), some (.ref d), some xv, some yv, some (.int kd), some (.ref ep), x9] ∧ Same H12 H') ?_ ?_ ?_⟩
      · exact ⟨_, rfl, Same.refl _⟩
      · rintro i σ' H13 hi ⟨x9, rfl, k⟩
        walk_at "rd"
        refine ⟨ep, gp, e, f, g, h, fs, rfl, pe.tu (tu_same k), pg.tu (tu_same k), hn, oe, of, og, oh, fun H14 s14 => ?_⟩
        have k14 := k.trans s14
        walk_at "rd"
        refine ⟨gp, ep, g, h, e, f, fs, rfl, pg.tu (tu_same k14), pe.tu (tu_same k14), hn, og, oh, oe, of, fun H15 s15 => ?_⟩
        walk_at "rd"
        exact k14.trans s15
      · rintro σ' H13 ⟨x9, rfl, k⟩
        walk_at "rd"
        refine ⟨gp, gp, g, h, g, h, fs, rfl, pg.tu (tu_same k), pg.tu (tu_same k), hn, og, oh, og, oh, fun H14 s14 => ?_⟩
        exact q _
    · walk_at "rd"
      refine ite2 (fun ez => ?_) (fun ez => ?_)
      · walk_at "rd"
        refine ⟨s, l, o, fs, 3, 3, yv, f, rfl, st9, op9, by decide, by decide, by decide, hy10, of.wf, by omega, by omega, fun r u H11 b11 st11 hu wu zu du => ?_⟩
        exact cont _ _ ⟨b11, _, _, rfl, hu, wu, by omega, by omega⟩
      · exact cont _ _ ⟨But.refl _ _, _, _, rfl, hy10, of⟩
  · walk_at "rd"
    refine ite2 (fun ez => ?_) (fun ez => ?_)
    · walk_at "rd"
      walk_at "rd"
      refine ⟨_, _, rfl, ?_⟩
      exact cont _ _ ⟨rfl, _, _, _, _, rfl, hy9, hx9, ⟨wh1, by omega, by omega⟩, ⟨wg1, by omega, by omega⟩, by omega, by omega⟩
    · exact cont _ _ ⟨rfl, _, _, _, _, rfl, hx9, hy9, ⟨wg1, by omega, by omega⟩, ⟨wh1, by omega, by omega⟩, by omega, by omega⟩

end
theorem all_mk {l : PySem.W.OpenLaw} {w : World} {K : PySem.W.Frag} {h : Heap} {mg : Str → Option Value} {fa : Addr} (X : K.In h) (G : h.Ns mainGlobals mg) (hfa : mg "law" = some (.ref fa))
    {f0 f1 f2 f3 f4 f5 f6 f7 f8 f9 f10 f11 f12 f13 f14 f15 f16 f17 f18 f19 f20 f21 f22 : Addr} {od0 an0 od1 an1 od2 an2 od3 an3 od4 an4 od5 an5 od6 an6 od7 an7 od8 an8 od9 an9 od10 an10 od11 an11 od12 an12 od13 an13 od14 an14 od15 an15 od16 an16 od17 an17 od18 an18 od19 an19 od20 an20 od21 an21 od22 an22 : Option Addr} {sl0 sl1 sl2 sl3 sl4 sl5 sl6 sl7 sl8 sl9 sl10 sl11 sl12 sl13 sl14 sl15 sl16 sl17 sl18 sl19 sl20 sl21 sl22 : Array (Option Value)} {oc0 kV0 dc0 pm0 cd0 ct0 oc1 kV1 dc1 pm1 cd1 ct1 oc2 kV2 dc2 pm2 cd2 ct2 oc3 kV3 dc3 pm3 cd3 ct3 oc4 kV4 dc4 pm4 cd4 ct4 oc5 kV5 dc5 pm5 cd5 ct5 oc6 kV6 dc6 pm6 cd6 ct6 oc7 kV7 dc7 pm7 cd7 ct7 oc8 kV8 dc8 pm8 cd8 ct8 oc9 kV9 dc9 pm9 cd9 ct9 oc10 kV10 dc10 pm10 cd10 ct10 oc11 kV11 dc11 pm11 cd11 ct11 oc12 kV12 dc12 pm12 cd12 ct12 oc13 kV13 dc13 pm13 cd13 ct13 oc14 kV14 dc14 pm14 cd14 ct14 oc15 kV15 dc15 pm15 cd15 ct15 oc16 kV16 dc16 pm16 cd16 ct16 oc17 kV17 dc17 pm17 cd17 ct17 oc18 kV18 dc18 pm18 cd18 ct18 oc19 kV19 dc19 pm19 cd19 ct19 oc20 kV20 dc20 pm20 cd20 ct20 oc21 kV21 dc21 pm21 cd21 ct21 oc22 kV22 dc22 pm22 cd22 ct22 : Value}
    (a0 : PySem.W.nsIn K mainGlobals "_law_state" = some (some (.ref f0))) (l0 : K.lookup f0 = some ⟨oc0, od0, .func (PySem.W.fnOf "_law_state" "_law_state" (defArgs s_u_law_state) (defBody s_u_law_state) (defScope s_u_law_state) .none kV0 dc0 pm0 an0 cd0 ct0), sl0⟩) (e0 : PySem.W.codeIn K cd0 "_law_state" = true) (k0 : PySem.W.keepIn K (.ref f0) = true)
    (a1 : PySem.W.nsIn K mainGlobals "_law_mix" = some (some (.ref f1))) (l1 : K.lookup f1 = some ⟨oc1, od1, .func (PySem.W.fnOf "_law_mix" "_law_mix" (defArgs s_u_law_mix) (defBody s_u_law_mix) (defScope s_u_law_mix) .none kV1 dc1 pm1 an1 cd1 ct1), sl1⟩) (e1 : PySem.W.codeIn K cd1 "_law_mix" = true) (k1 : PySem.W.keepIn K (.ref f1) = true)
    (a2 : PySem.W.nsIn K mainGlobals "_law_number" = some (some (.ref f2))) (l2 : K.lookup f2 = some ⟨oc2, od2, .func (PySem.W.fnOf "_law_number" "_law_number" (defArgs s_u_law_number) (defBody s_u_law_number) (defScope s_u_law_number) .none kV2 dc2 pm2 an2 cd2 ct2), sl2⟩) (e2 : PySem.W.codeIn K cd2 "_law_number" = true) (k2 : PySem.W.keepIn K (.ref f2) = true)
    (a3 : PySem.W.nsIn K mainGlobals "_law_draw" = some (some (.ref f3))) (l3 : K.lookup f3 = some ⟨oc3, od3, .func (PySem.W.fnOf "_law_draw" "_law_draw" (defArgs s_u_law_draw) (defBody s_u_law_draw) (defScope s_u_law_draw) .none kV3 dc3 pm3 an3 cd3 ct3), sl3⟩) (e3 : PySem.W.codeIn K cd3 "_law_draw" = true) (k3 : PySem.W.keepIn K (.ref f3) = true)
    (a4 : PySem.W.nsIn K mainGlobals "_law_word" = some (some (.ref f4))) (l4 : K.lookup f4 = some ⟨oc4, od4, .func (PySem.W.fnOf "_law_word" "_law_word" (defArgs s_u_law_word) (defBody s_u_law_word) (defScope s_u_law_word) .none kV4 dc4 pm4 an4 cd4 ct4), sl4⟩) (e4 : PySem.W.codeIn K cd4 "_law_word" = true) (k4 : PySem.W.keepIn K (.ref f4) = true)
    (a5 : PySem.W.nsIn K mainGlobals "_law_names" = some (some (.ref f5))) (l5 : K.lookup f5 = some ⟨oc5, od5, .func (PySem.W.fnOf "_law_names" "_law_names" (defArgs s_u_law_names) (defBody s_u_law_names) (defScope s_u_law_names) .none kV5 dc5 pm5 an5 cd5 ct5), sl5⟩) (e5 : PySem.W.codeIn K cd5 "_law_names" = true) (k5 : PySem.W.keepIn K (.ref f5) = true)
    (a6 : PySem.W.nsIn K mainGlobals "_law_operations" = some (some (.ref f6))) (l6 : K.lookup f6 = some ⟨oc6, od6, .func (PySem.W.fnOf "_law_operations" "_law_operations" (defArgs s_u_law_operations) (defBody s_u_law_operations) (defScope s_u_law_operations) .none kV6 dc6 pm6 an6 cd6 ct6), sl6⟩) (e6 : PySem.W.codeIn K cd6 "_law_operations" = true) (k6 : PySem.W.keepIn K (.ref f6) = true)
    (a7 : PySem.W.nsIn K mainGlobals "_law_leaf" = some (some (.ref f7))) (l7 : K.lookup f7 = some ⟨oc7, od7, .func (PySem.W.fnOf "_law_leaf" "_law_leaf" (defArgs s_u_law_leaf) (defBody s_u_law_leaf) (defScope s_u_law_leaf) .none kV7 dc7 pm7 an7 cd7 ct7), sl7⟩) (e7 : PySem.W.codeIn K cd7 "_law_leaf" = true) (k7 : PySem.W.keepIn K (.ref f7) = true)
    (a8 : PySem.W.nsIn K mainGlobals "_law_term" = some (some (.ref f8))) (l8 : K.lookup f8 = some ⟨oc8, od8, .func (PySem.W.fnOf "_law_term" "_law_term" (defArgs s_u_law_term) (defBody s_u_law_term) (defScope s_u_law_term) .none kV8 dc8 pm8 an8 cd8 ct8), sl8⟩) (e8 : PySem.W.codeIn K cd8 "_law_term" = true) (k8 : PySem.W.keepIn K (.ref f8) = true)
    (a9 : PySem.W.nsIn K mainGlobals "_law_values" = some (some (.ref f9))) (l9 : K.lookup f9 = some ⟨oc9, od9, .func (PySem.W.fnOf "_law_values" "_law_values" (defArgs s_u_law_values) (defBody s_u_law_values) (defScope s_u_law_values) .none kV9 dc9 pm9 an9 cd9 ct9), sl9⟩) (e9 : PySem.W.codeIn K cd9 "_law_values" = true) (k9 : PySem.W.keepIn K (.ref f9) = true)
    (a10 : PySem.W.nsIn K mainGlobals "_law_substitute" = some (some (.ref f10))) (l10 : K.lookup f10 = some ⟨oc10, od10, .func (PySem.W.fnOf "_law_substitute" "_law_substitute" (defArgs s_u_law_substitute) (defBody s_u_law_substitute) (defScope s_u_law_substitute) .none kV10 dc10 pm10 an10 cd10 ct10), sl10⟩) (e10 : PySem.W.codeIn K cd10 "_law_substitute" = true) (k10 : PySem.W.keepIn K (.ref f10) = true)
    (a11 : PySem.W.nsIn K mainGlobals "_law_match" = some (some (.ref f11))) (l11 : K.lookup f11 = some ⟨oc11, od11, .func (PySem.W.fnOf "_law_match" "_law_match" (defArgs s_u_law_match) (defBody s_u_law_match) (defScope s_u_law_match) .none kV11 dc11 pm11 an11 cd11 ct11), sl11⟩) (e11 : PySem.W.codeIn K cd11 "_law_match" = true) (k11 : PySem.W.keepIn K (.ref f11) = true)
    (a12 : PySem.W.nsIn K mainGlobals "_law_match_all" = some (some (.ref f12))) (l12 : K.lookup f12 = some ⟨oc12, od12, .func (PySem.W.fnOf "_law_match_all" "_law_match_all" (defArgs s_u_law_match_all) (defBody s_u_law_match_all) (defScope s_u_law_match_all) .none kV12 dc12 pm12 an12 cd12 ct12), sl12⟩) (e12 : PySem.W.codeIn K cd12 "_law_match_all" = true) (k12 : PySem.W.keepIn K (.ref f12) = true)
    (a13 : PySem.W.nsIn K mainGlobals "_law_is_instance" = some (some (.ref f13))) (l13 : K.lookup f13 = some ⟨oc13, od13, .func (PySem.W.fnOf "_law_is_instance" "_law_is_instance" (defArgs s_u_law_is_instance) (defBody s_u_law_is_instance) (defScope s_u_law_is_instance) .none kV13 dc13 pm13 an13 cd13 ct13), sl13⟩) (e13 : PySem.W.codeIn K cd13 "_law_is_instance" = true) (k13 : PySem.W.keepIn K (.ref f13) = true)
    (a14 : PySem.W.nsIn K mainGlobals "_law_tells" = some (some (.ref f14))) (l14 : K.lookup f14 = some ⟨oc14, od14, .func (PySem.W.fnOf "_law_tells" "_law_tells" (defArgs s_u_law_tells) (defBody s_u_law_tells) (defScope s_u_law_tells) .none kV14 dc14 pm14 an14 cd14 ct14), sl14⟩) (e14 : PySem.W.codeIn K cd14 "_law_tells" = true) (k14 : PySem.W.keepIn K (.ref f14) = true)
    (a15 : PySem.W.nsIn K mainGlobals "match_lists" = some (some (.ref f15))) (l15 : K.lookup f15 = some ⟨oc15, od15, .func (PySem.W.fnOf "match_lists" "match_lists" (defArgs s_match_lists) (defBody s_match_lists) (defScope s_match_lists) .none kV15 dc15 pm15 an15 cd15 ct15), sl15⟩) (e15 : PySem.W.codeIn K cd15 "match_lists" = true) (k15 : PySem.W.keepIn K (.ref f15) = true)
    (a16 : PySem.W.nsIn K mainGlobals "is_instance" = some (some (.ref f16))) (l16 : K.lookup f16 = some ⟨oc16, od16, .func (PySem.W.fnOf "is_instance" "is_instance" (defArgs s_is_instance) (defBody s_is_instance) (defScope s_is_instance) .none kV16 dc16 pm16 an16 cd16 ct16), sl16⟩) (e16 : PySem.W.codeIn K cd16 "is_instance" = true) (k16 : PySem.W.keepIn K (.ref f16) = true)
    (a17 : PySem.W.nsIn K mainGlobals "subsumes" = some (some (.ref f17))) (l17 : K.lookup f17 = some ⟨oc17, od17, .func (PySem.W.fnOf "subsumes" "subsumes" (defArgs s_subsumes) (defBody s_subsumes) (defScope s_subsumes) .none kV17 dc17 pm17 an17 cd17 ct17), sl17⟩) (e17 : PySem.W.codeIn K cd17 "subsumes" = true) (k17 : PySem.W.keepIn K (.ref f17) = true)
    (a18 : PySem.W.nsIn K mainGlobals "_law_told" = some (some (.ref f18))) (l18 : K.lookup f18 = some ⟨oc18, od18, .func (PySem.W.fnOf "_law_told" "_law_told" (defArgs s_u_law_told) (defBody s_u_law_told) (defScope s_u_law_told) .none kV18 dc18 pm18 an18 cd18 ct18), sl18⟩) (e18 : PySem.W.codeIn K cd18 "_law_told" = true) (k18 : PySem.W.keepIn K (.ref f18) = true)
    (a19 : PySem.W.nsIn K mainGlobals "_law_positions" = some (some (.ref f19))) (l19 : K.lookup f19 = some ⟨oc19, od19, .func (PySem.W.fnOf "_law_positions" "_law_positions" (defArgs s_u_law_positions) (defBody s_u_law_positions) (defScope s_u_law_positions) .none kV19 dc19 pm19 an19 cd19 ct19), sl19⟩) (e19 : PySem.W.codeIn K cd19 "_law_positions" = true) (k19 : PySem.W.keepIn K (.ref f19) = true)
    (a20 : PySem.W.nsIn K mainGlobals "_law_replace" = some (some (.ref f20))) (l20 : K.lookup f20 = some ⟨oc20, od20, .func (PySem.W.fnOf "_law_replace" "_law_replace" (defArgs s_u_law_replace) (defBody s_u_law_replace) (defScope s_u_law_replace) .none kV20 dc20 pm20 an20 cd20 ct20), sl20⟩) (e20 : PySem.W.codeIn K cd20 "_law_replace" = true) (k20 : PySem.W.keepIn K (.ref f20) = true)
    (a21 : PySem.W.nsIn K mainGlobals "_law_spoilt" = some (some (.ref f21))) (l21 : K.lookup f21 = some ⟨oc21, od21, .func (PySem.W.fnOf "_law_spoilt" "_law_spoilt" (defArgs s_u_law_spoilt) (defBody s_u_law_spoilt) (defScope s_u_law_spoilt) .none kV21 dc21 pm21 an21 cd21 ct21), sl21⟩) (e21 : PySem.W.codeIn K cd21 "_law_spoilt" = true) (k21 : PySem.W.keepIn K (.ref f21) = true)
    (a22 : PySem.W.nsIn K mainGlobals "law" = some (some (.ref f22))) (l22 : K.lookup f22 = some ⟨oc22, od22, .func (PySem.W.fnOf "law" "law" (defArgs s_law) (defBody s_law) (defScope s_law) .none kV22 dc22 pm22 an22 cd22 ct22), sl22⟩) (e22 : PySem.W.codeIn K cd22 "law" = true) (k22 : PySem.W.keepIn K (.ref f22) = true)
    (z_int : PySem.W.nsIn K mainGlobals "int" = some none)
    (z_isinstance : PySem.W.nsIn K mainGlobals "isinstance" = some none)
    (z_len : PySem.W.nsIn K mainGlobals "len" = some none)
    (z_list : PySem.W.nsIn K mainGlobals "list" = some none)
    (z_range : PySem.W.nsIn K mainGlobals "range" = some none)
    (z_zip : PySem.W.nsIn K mainGlobals "zip" = some none)
    : ∃ fd : FuncData, (∀ (s : Shared) (v : Value), BindsTo s fd ⟨[v], []⟩ [("script", v)]) ∧ ∀ base : Heap, K.In base → base.Ns mainGlobals mg → FnOk l.prog w K mg base CX0 70 fa fd ["script"] (sp_law K) := by
  have e := hfa.symm.trans (PySem.W.mg_of X G a22)
  cases e
  have F0 := fun_mk (st := s_u_law_state) l0 e0 k0
  have b0 := F0.binds (ps := ["script"]) fun _ _ _ _ _ _ us hl => match us, hl with | [_], _ => rfl
  have F1 := fun_mk (st := s_u_law_mix) l1 e1 k1
  have b1 := F1.binds (ps := ["cell"]) fun _ _ _ _ _ _ us hl => match us, hl with | [_], _ => rfl
  have F2 := fun_mk (st := s_u_law_number) l2 e2 k2
  have b2 := F2.binds (ps := ["cell"]) fun _ _ _ _ _ _ us hl => match us, hl with | [_], _ => rfl
  have F3 := fun_mk (st := s_u_law_draw) l3 e3 k3
  have b3 := F3.binds (ps := ["state", "many"]) fun _ _ _ _ _ _ us hl => match us, hl with | [_, _], _ => rfl
  have F4 := fun_mk (st := s_u_law_word) l4 e4 k4
  have b4 := F4.binds (ps := ["state", "size"]) fun _ _ _ _ _ _ us hl => match us, hl with | [_, _], _ => rfl
  have F5 := fun_mk (st := s_u_law_names) l5 e5 k5
  have b5 := F5.binds (ps := ["state", "count"]) fun _ _ _ _ _ _ us hl => match us, hl with | [_, _], _ => rfl
  have F6 := fun_mk (st := s_u_law_operations) l6 e6 k6
  have b6 := F6.binds (ps := ["state"]) fun _ _ _ _ _ _ us hl => match us, hl with | [_], _ => rfl
  have F7 := fun_mk (st := s_u_law_leaf) l7 e7 k7
  have b7 := F7.binds (ps := ["state", "operations", "count"]) fun _ _ _ _ _ _ us hl => match us, hl with | [_, _, _], _ => rfl
  have F8 := fun_mk (st := s_u_law_term) l8 e8 k8
  have b8 := F8.binds (ps := ["state", "operations", "count", "height"]) fun _ _ _ _ _ _ us hl => match us, hl with | [_, _, _, _], _ => rfl
  have F9 := fun_mk (st := s_u_law_values) l9 e9 k9
  have b9 := F9.binds (ps := ["state", "operations", "count", "inner"]) fun _ _ _ _ _ _ us hl => match us, hl with | [_, _, _, _], _ => rfl
  have F10 := fun_mk (st := s_u_law_substitute) l10 e10 k10
  have b10 := F10.binds (ps := ["term", "substitution"]) fun _ _ _ _ _ _ us hl => match us, hl with | [_, _], _ => rfl
  have F11 := fun_mk (st := s_u_law_match) l11 e11 k11
  have b11 := F11.binds (ps := ["pattern", "term", "found"]) fun _ _ _ _ _ _ us hl => match us, hl with | [_, _, _], _ => rfl
  have F12 := fun_mk (st := s_u_law_match_all) l12 e12 k12
  have b12 := F12.binds (ps := ["patterns", "terms"]) fun _ _ _ _ _ _ us hl => match us, hl with | [_, _], _ => rfl
  have F13 := fun_mk (st := s_u_law_is_instance) l13 e13 k13
  have b13 := F13.binds (ps := ["equation", "general"]) fun _ _ _ _ _ _ us hl => match us, hl with | [_, _], _ => rfl
  have F14 := fun_mk (st := s_u_law_tells) l14 e14 k14
  have b14 := F14.binds (ps := ["actual", "due"]) fun _ _ _ _ _ _ us hl => match us, hl with | [_, _], _ => rfl
  have F15 := fun_mk (st := s_match_lists) l15 e15 k15
  have b15 := F15.binds (ps := ["patterns", "terms"]) fun _ _ _ _ _ _ us hl => match us, hl with | [_, _], _ => rfl
  have F16 := fun_mk (st := s_is_instance) l16 e16 k16
  have b16 := F16.binds (ps := ["equation", "general"]) fun _ _ _ _ _ _ us hl => match us, hl with | [_, _], _ => rfl
  have F17 := fun_mk (st := s_subsumes) l17 e17 k17
  have b17 := F17.binds (ps := ["general", "equation"]) fun _ _ _ _ _ _ us hl => match us, hl with | [_, _], _ => rfl
  have F18 := fun_mk (st := s_u_law_told) l18 e18 k18
  have b18 := F18.binds (ps := ["general", "equation"]) fun _ _ _ _ _ _ us hl => match us, hl with | [_, _], _ => rfl
  have F19 := fun_mk (st := s_u_law_positions) l19 e19 k19
  have b19 := F19.binds (ps := ["term"]) fun _ _ _ _ _ _ us hl => match us, hl with | [_], _ => rfl
  have F20 := fun_mk (st := s_u_law_replace) l20 e20 k20
  have b20 := F20.binds (ps := ["term", "position", "new"]) fun _ _ _ _ _ _ us hl => match us, hl with | [_, _, _], _ => rfl
  have F21 := fun_mk (st := s_u_law_spoilt) l21 e21 k21
  have b21 := F21.binds (ps := ["state", "operations", "count", "term"]) fun _ _ _ _ _ _ us hl => match us, hl with | [_, _, _, _], _ => rfl
  have F22 := fun_mk (st := s_law) l22 e22 k22
  have b22 := F22.binds (ps := ["script"]) fun _ _ _ _ _ _ us hl => match us, hl with | [_], _ => rfl
  have T : Tx K mg ⟨f0, _, f1, _, f2, _, f3, _, f4, _, f5, _, f6, _, f7, _, f8, _, f9, _, f10, _, f11, _, f12, _, f13, _, f14, _, f15, _, f16, _, f17, _, f18, _, f19, _, f20, _, f21, _, fa, _⟩ := ⟨F0, b0, PySem.W.mg_of X G a0, F1, b1, PySem.W.mg_of X G a1, F2, b2, PySem.W.mg_of X G a2, F3, b3, PySem.W.mg_of X G a3, F4, b4, PySem.W.mg_of X G a4, F5, b5, PySem.W.mg_of X G a5, F6, b6, PySem.W.mg_of X G a6, F7, b7, PySem.W.mg_of X G a7, F8, b8, PySem.W.mg_of X G a8, F9, b9, PySem.W.mg_of X G a9, F10, b10, PySem.W.mg_of X G a10, F11, b11, PySem.W.mg_of X G a11, F12, b12, PySem.W.mg_of X G a12, F13, b13, PySem.W.mg_of X G a13, F14, b14, PySem.W.mg_of X G a14, F15, b15, PySem.W.mg_of X G a15, F16, b16, PySem.W.mg_of X G a16, F17, b17, PySem.W.mg_of X G a17, F18, b18, PySem.W.mg_of X G a18, F19, b19, PySem.W.mg_of X G a19, F20, b20, PySem.W.mg_of X G a20, F21, b21, PySem.W.mg_of X G a21, F22, b22, PySem.W.mg_of X G a22, PySem.W.mg_none_of X G z_int, PySem.W.mg_none_of X G z_isinstance, PySem.W.mg_none_of X G z_len, PySem.W.mg_none_of X G z_list, PySem.W.mg_none_of X G z_range, PySem.W.mg_none_of X G z_zip⟩
  refine ⟨PySem.W.fnOf "law" "law" (defArgs s_law) (defBody s_law) (defScope s_law) .none kV22 dc22 pm22 an22 cd22 ct22, fun s v => .of_eq rfl, fun base _ _ => ?_⟩
  exact ok_law (P := l.prog) (w := w) (base := base) T
theorem walk {l : PySem.W.OpenLaw} {q : Program} {loose : List Str} {XP : (Str → Option Value) → Heap → Prop} {YP : World → Heap → Prop} {d : DefRec} {K : Params → PySem.W.Frag} (hn : l.most = some 63) (hdf : d.params.defaults = [])
    (hY : ∀ (w : World) (h : Heap), YP w h → (K w.params).In h)
    (F : ∀ (w : World) (mg : Str → Option Value) (fa : Addr) (h : Heap), (K w.params).In h → h.Ns mainGlobals mg → mg d.name = some (.ref fa) →
      ∃ fd : FuncData, (∀ (s : Shared) (u : Value), BindsTo s fd ⟨[u], []⟩ [("script", u)]) ∧ ∀ base : Heap, (K w.params).In base → base.Ns mainGlobals mg → FnOk l.prog w (K w.params) mg base CX0 70 fa fd ["script"] (sp_law (K w.params))) :
    PySem.W.WalkO q loose XP YP l.row.toRowW d [] (fun f vs => PySem.call f vs) :=
  L2.walk_of (n := 63) (k := 70) (x := "script") (CX := fun _ => CX0) (sp := fun w => sp_law (K w.params)) hn (by decide) hdf ⟨rfl, by decide, by decide⟩ hY F (fun _ _ a ns hl _ hS => ⟨a, ns, rfl, hS, hl, fun _ => rfl⟩) fun _ _ _ _ _ z => z
end Lw
open PySem PySem.W PyProof.Rows
set_option maxRecDepth 100000 in
set_option maxHeartbeats 0 in
theorem PySem.Challenge.cw_joinedends_k22_instances_of_equations_holds : PySem.Challenge.rw_joinedends_k22_instances_of_equations.Holds := by
  w_on; o_law; k_head; (case hw => w_witness2)
  k_fill
  refine Lw.walk (l := PySem.Challenge.rw_joinedends_k22_instances_of_equations) rfl rfl (fun w h Y => PySem.W.kIn_of Y) ?F
  case F =>
    intro w mg fa h KX G hmg
    refine' Lw.all_mk KX G hmg ?a0 ?l0 ?e0 ?k0 ?a1 ?l1 ?e1 ?k1 ?a2 ?l2 ?e2 ?k2 ?a3 ?l3 ?e3 ?k3 ?a4 ?l4 ?e4 ?k4 ?a5 ?l5 ?e5 ?k5 ?a6 ?l6 ?e6 ?k6 ?a7 ?l7 ?e7 ?k7 ?a8 ?l8 ?e8 ?k8 ?a9 ?l9 ?e9 ?k9 ?a10 ?l10 ?e10 ?k10 ?a11 ?l11 ?e11 ?k11 ?a12 ?l12 ?e12 ?k12 ?a13 ?l13 ?e13 ?k13 ?a14 ?l14 ?e14 ?k14 ?a15 ?l15 ?e15 ?k15 ?a16 ?l16 ?e16 ?k16 ?a17 ?l17 ?e17 ?k17 ?a18 ?l18 ?e18 ?k18 ?a19 ?l19 ?e19 ?k19 ?a20 ?l20 ?e20 ?k20 ?a21 ?l21 ?e21 ?k21 ?a22 ?l22 ?e22 ?k22 ?z_int ?z_isinstance ?z_len ?z_list ?z_range ?z_zip
    (case a0 => k_is)
    (case l0 => k_is)
    (case e0 => k_is)
    (case k0 => k_is)
    (case a1 => k_is)
    (case l1 => k_is)
    (case e1 => k_is)
    (case k1 => k_is)
    (case a2 => k_is)
    (case l2 => k_is)
    (case e2 => k_is)
    (case k2 => k_is)
    (case a3 => k_is)
    (case l3 => k_is)
    (case e3 => k_is)
    (case k3 => k_is)
    (case a4 => k_is)
    (case l4 => k_is)
    (case e4 => k_is)
    (case k4 => k_is)
    (case a5 => k_is)
    (case l5 => k_is)
    (case e5 => k_is)
    (case k5 => k_is)
    (case a6 => k_is)
    (case l6 => k_is)
    (case e6 => k_is)
    (case k6 => k_is)
    (case a7 => k_is)
    (case l7 => k_is)
    (case e7 => k_is)
    (case k7 => k_is)
    (case a8 => k_is)
    (case l8 => k_is)
    (case e8 => k_is)
    (case k8 => k_is)
    (case a9 => k_is)
    (case l9 => k_is)
    (case e9 => k_is)
    (case k9 => k_is)
    (case a10 => k_is)
    (case l10 => k_is)
    (case e10 => k_is)
    (case k10 => k_is)
    (case a11 => k_is)
    (case l11 => k_is)
    (case e11 => k_is)
    (case k11 => k_is)
    (case a12 => k_is)
    (case l12 => k_is)
    (case e12 => k_is)
    (case k12 => k_is)
    (case a13 => k_is)
    (case l13 => k_is)
    (case e13 => k_is)
    (case k13 => k_is)
    (case a14 => k_is)
    (case l14 => k_is)
    (case e14 => k_is)
    (case k14 => k_is)
    (case a15 => k_is)
    (case l15 => k_is)
    (case e15 => k_is)
    (case k15 => k_is)
    (case a16 => k_is)
    (case l16 => k_is)
    (case e16 => k_is)
    (case k16 => k_is)
    (case a17 => k_is)
    (case l17 => k_is)
    (case e17 => k_is)
    (case k17 => k_is)
    (case a18 => k_is)
    (case l18 => k_is)
    (case e18 => k_is)
    (case k18 => k_is)
    (case a19 => k_is)
    (case l19 => k_is)
    (case e19 => k_is)
    (case k19 => k_is)
    (case a20 => k_is)
    (case l20 => k_is)
    (case e20 => k_is)
    (case k20 => k_is)
    (case a21 => k_is)
    (case l21 => k_is)
    (case e21 => k_is)
    (case k21 => k_is)
    (case a22 => k_is)
    (case l22 => k_is)
    (case e22 => k_is)
    (case k22 => k_is)
    (case z_int => k_is)
    (case z_isinstance => k_is)
    (case z_len => k_is)
    (case z_list => k_is)
    (case z_range => k_is)
    (case z_zip => k_is)
#print axioms PySem.Challenge.cw_joinedends_k22_instances_of_equations_holds
