import PyProof.Rows.All
import Wide.All
import OpenK.AllK
import Wide.FinOn
import HandS.ForMost
import HandS.IsInst
import HandS.FStr
import HandS.ForExc
import HandS.ExcIs
import HandS.TryOnly
import HandS.Iter
import HandS.TupAny
import PySem.Challenge.RW_joinedends_k04_replace
set_option Elab.async false
set_option maxRecDepth 100000
/-! ### terms, and what a heap says of them -/
namespace J
open PySem L2

/-- a term of the document -/
inductive Tm where
  | var (n : Int)
  | app (f : Str) (ts : List Tm)

mutual
def Tm.sz : Tm → Nat
  | .var _ => 1
  | .app _ ts => 1 + Tm.szs ts
def Tm.szs : List Tm → Nat
  | [] => 0
  | t :: ts => Tm.sz t + Tm.szs ts
end
mutual
def Tm.dep : Tm → Nat
  | .var _ => 1
  | .app _ ts => 1 + Tm.deps ts
def Tm.deps : List Tm → Nat
  | [] => 0
  | t :: ts => max (Tm.dep t) (Tm.deps ts)
end
mutual
/-- t stands in H as the value v -/
def TmIn (H : Hp) : Tm → V → Prop
  | .var n, v => v = .int n
  | .app f ts, v => ∃ a vs, v = .ref a ∧ H a = some (.tup (.str f :: vs)) ∧ TmsIn H ts vs
def TmsIn (H : Hp) : List Tm → List V → Prop
  | [], vs => vs = []
  | t :: ts, vs => ∃ v r, vs = v :: r ∧ TmIn H t v ∧ TmsIn H ts r
end
/-- the arity of the k-th drawn operation -/
def ar (k : Nat) : Nat := if k < 2 then 0 else k - 1
mutual
/-- variables below B, applications of the named operations -/
def Tm.wf (fs : List Str) (B : Int) : Tm → Prop
  | .var n => 0 ≤ n ∧ n < B
  | .app f ts => (∃ k, fs[k]? = some f ∧ ts.length = ar k) ∧ Tm.wfs fs B ts
def Tm.wfs (fs : List Str) (B : Int) : List Tm → Prop
  | [] => True
  | t :: ts => Tm.wf fs B t ∧ Tm.wfs fs B ts
end

/-- induction over terms -/
theorem Tm.ind {P : Tm → Prop} (hv : ∀ n, P (.var n)) (ha : ∀ f ts, (∀ t ∈ ts, P t) → P (.app f ts)) : ∀ t, P t
  | .var n => hv n
  | .app f ts => ha f ts (go ts)
where go : ∀ ts : List Tm, ∀ t ∈ ts, P t
  | [], _, h => nomatch h
  | u :: us, t, h => by
    rcases List.mem_cons.mp h with e | h
    · rw [e]; exact Tm.ind hv ha u
    · exact go us t h

theorem Tm.sz_pos : ∀ t : Tm, 1 ≤ t.sz
  | .var _ => Nat.le_refl _
  | .app _ _ => by show 1 ≤ 1 + _; omega
theorem Tm.dep_pos : ∀ t : Tm, 1 ≤ t.dep
  | .var _ => Nat.le_refl _
  | .app _ _ => by show 1 ≤ 1 + _; omega
theorem Tm.dep_of_mem : ∀ {ts : List Tm} {t : Tm}, t ∈ ts → t.dep ≤ Tm.deps ts
  | u :: us, t, h => by
    show t.dep ≤ max u.dep (Tm.deps us)
    rcases List.mem_cons.mp h with e | h
    · rw [e]; omega
    · have := Tm.dep_of_mem h; omega
theorem Tm.deps_le : ∀ {ts : List Tm} {n : Nat}, (∀ t ∈ ts, t.dep ≤ n) → Tm.deps ts ≤ n
  | [], _, _ => Nat.zero_le _
  | u :: us, n, h => by
    have h1 := h u (List.mem_cons_self ..)
    have h2 := Tm.deps_le (ts := us) fun t m => h t (List.mem_cons_of_mem _ m)
    show max u.dep (Tm.deps us) ≤ n
    omega
theorem Tm.szs_le : ∀ {ts : List Tm} {M : Nat}, (∀ t ∈ ts, 2 * t.sz + 1 ≤ M) → 2 * Tm.szs ts + ts.length ≤ ts.length * M
  | [], _, _ => by show 2 * 0 + 0 ≤ _; omega
  | u :: us, M, h => by
    have h1 := h u (List.mem_cons_self ..)
    have h2 := Tm.szs_le (ts := us) (M := M) fun t m => h t (List.mem_cons_of_mem _ m)
    show 2 * (u.sz + Tm.szs us) + (us.length + 1) ≤ (us.length + 1) * M
    rw [Nat.add_mul, Nat.one_mul]
    omega
theorem Tm.szs_three {ts : List Tm} {h : Nat} (hl : ts.length ≤ 3) (hw : ∀ t ∈ ts, 2 * t.sz + 1 ≤ 3 ^ h) : 2 * (1 + Tm.szs ts) + 1 ≤ 3 ^ (h + 1) := by
  have h1 := Tm.szs_le hw
  have h3 : 1 ≤ 3 ^ h := Nat.pow_pos (by decide)
  have h2 : 3 ^ (h + 1) = 3 ^ h * 3 := rfl
  generalize 3 ^ h = M at *
  rw [h2]
  match e : ts.length, hl with
  | 0, _ => rw [e] at h1; omega
  | 1, _ => rw [e] at h1; omega
  | 2, _ => rw [e] at h1; omega
  | 3, _ => rw [e] at h1; omega
theorem Tm.wf_of_mem {fs : List Str} {B : Int} : ∀ {ts : List Tm} {t : Tm}, Tm.wfs fs B ts → t ∈ ts → t.wf fs B
  | u :: us, t, w, h => by
    have w : u.wf fs B ∧ Tm.wfs fs B us := w
    rcases List.mem_cons.mp h with e | h
    · rw [e]; exact w.1
    · exact Tm.wf_of_mem w.2 h
theorem Tm.wfs_of {fs : List Str} {B : Int} : ∀ {ts : List Tm}, (∀ t ∈ ts, t.wf fs B) → Tm.wfs fs B ts
  | [], _ => True.intro
  | u :: us, h => ⟨h u (List.mem_cons_self ..), Tm.wfs_of fun t m => h t (List.mem_cons_of_mem _ m)⟩

/-- a tuple that is known stays known -/
def Tu (H H' : Hp) : Prop := ∀ a xs, H a = some (.tup xs) → H' a = some (.tup xs)
theorem Tu.refl (H : Hp) : Tu H H := fun _ _ h => h
theorem Tu.trans {H H1 H2 : Hp} (a : Tu H H1) (b : Tu H1 H2) : Tu H H2 := fun x y h => b x y (a x y h)
theorem tu_same {H H' : Hp} (s : Same H H') : Tu H H' := fun a _ h => s a _ h
theorem tu_upd {H : Hp} {p : Addr} {o : HO} (h : ∀ xs, H p ≠ some (.tup xs)) : Tu H (upd H p o) := fun a xs e => by
  have ne : a ≠ p := fun z => by subst z; exact h _ e
  rw [upd_ne ne]; exact e
mutual
theorem TmIn.mono {H H' : Hp} (s : Tu H H') : ∀ (t : Tm) (v : V), TmIn H t v → TmIn H' t v
  | .var _, _, h => h
  | .app _ ts, _, ⟨a, vs, e, h, r⟩ => ⟨a, vs, e, s _ _ h, TmsIn.mono s ts vs r⟩
theorem TmsIn.mono {H H' : Hp} (s : Tu H H') : ∀ (ts : List Tm) (vs : List V), TmsIn H ts vs → TmsIn H' ts vs
  | [], _, h => h
  | t :: ts, _, ⟨v, r, e, h, q⟩ => ⟨v, r, e, TmIn.mono s t v h, TmsIn.mono s ts r q⟩
end
theorem TmIn.tu {H H' : Hp} {t : Tm} {v : V} (h : TmIn H t v) (s : Tu H H') : TmIn H' t v := TmIn.mono s t v h
theorem TmsIn.tu {H H' : Hp} {t : List Tm} {v : List V} (h : TmsIn H t v) (s : Tu H H') : TmsIn H' t v := TmsIn.mono s t v h
theorem TmsIn.length {H : Hp} : ∀ {ts : List Tm} {vs : List V}, TmsIn H ts vs → vs.length = ts.length
  | [], _, h => by cases (show _ = [] from h); rfl
  | t :: ts, _, ⟨v, r, e, _, q⟩ => by rw [e, List.length_cons, List.length_cons, TmsIn.length q]
theorem TmsIn.get {H : Hp} : ∀ {ts : List Tm} {vs : List V} {i : Nat} {v : V}, TmsIn H ts vs → vs[i]? = some v → ∃ t, ts[i]? = some t ∧ TmIn H t v
  | [], _, i, v, h, e => by cases (show _ = [] from h); simp at e
  | t :: ts, _, 0, v, ⟨w, r, rfl, h, q⟩, e => by
    have e : w = v := by simpa using e
    exact ⟨t, rfl, e ▸ h⟩
  | t :: ts, _, i + 1, v, ⟨w, r, rfl, h, q⟩, e => by
    obtain ⟨u, h1, h2⟩ := TmsIn.get (i := i) (v := v) q (by simpa using e)
    exact ⟨u, by simpa using h1, h2⟩
theorem TmsIn.get' {H : Hp} {ts : List Tm} {vs : List V} {i : Nat} {t : Tm} (h : TmsIn H ts vs) (e : ts[i]? = some t) : ∃ v, vs[i]? = some v ∧ TmIn H t v := by
  have hi : i < ts.length := (List.getElem?_eq_some_iff.mp e).1
  rw [← h.length] at hi
  obtain ⟨u, h1, h2⟩ := h.get (List.getElem?_eq_getElem hi)
  rw [e] at h1
  cases h1
  exact ⟨_, List.getElem?_eq_getElem hi, h2⟩
theorem TmsIn.append {H : Hp} : ∀ {ts us : List Tm} {vs ws : List V}, TmsIn H ts vs → TmsIn H us ws → TmsIn H (ts ++ us) (vs ++ ws)
  | [], us, vs, ws, h, q => by cases (show vs = [] from h); exact q
  | t :: ts, us, _, ws, ⟨v, r, rfl, h, k⟩, q => ⟨v, r ++ ws, rfl, h, TmsIn.append k q⟩
theorem TmsIn.one {H : Hp} {t : Tm} {v : V} (h : TmIn H t v) : TmsIn H [t] [v] := ⟨v, [], rfl, h, rfl⟩

/-! ### heaps -/
theorem same_new {H : Hp} {p : Addr} (h : H p = none) (o : HO) : Same H (upd H p o) := fun b u q => by rw [upd_ne (ne_of_none q h)]; exact q
/-- what H does not know may change -/
theorem same_mut {H H' : Hp} {p : Addr} (e : Same H H') (h : H p = none) (o : HO) : Same H (upd H' p o) := fun a u ha => by
  rw [upd_ne (ne_of_none ha h)]; exact e a u ha
theorem al_same {H H1 : Hp} {p : Addr} {o : HO} (n : H p = none) (e : upd H p o = H1) : Same H H1 := e ▸ same_new n o
theorem al_at {H H1 : Hp} {p : Addr} {o : HO} (e : upd H p o = H1) : H1 p = some o := by rw [← e]; exact upd_same
theorem al_mut {H0 H H1 : Hp} {p : Addr} {o : HO} (s : Same H0 H) (n : H0 p = none) (e : upd H p o = H1) : Same H0 H1 := e ▸ same_mut s n o
theorem al_but {H H1 : Hp} {p : Addr} {o : HO} (e : upd H p o = H1) : ∀ b u, H b = some u → b ≠ p → H1 b = some u := fun b u h n => by rw [← e, upd_ne n]; exact h
/-- all but the object at s stands as it stood -/
def But (s : Addr) (H H' : Hp) : Prop := ∀ b o, H b = some o → b ≠ s → H' b = some o
theorem But.refl (s : Addr) (H : Hp) : But s H H := fun _ _ h _ => h
theorem But.trans {s : Addr} {H H1 H2 : Hp} (a : But s H H1) (b : But s H1 H2) : But s H H2 := fun c o h n => b c o (a c o h n) n
theorem but_same {s : Addr} {H H' : Hp} (h : Same H H') : But s H H' := fun b o q _ => h b o q
theorem but_upd {s : Addr} {H : Hp} (o : HO) : But s H (upd H s o) := fun b u q n => by rw [upd_ne n]; exact q
theorem But.mut {s : Addr} {H H' : Hp} {p : Addr} (e : But s H H') (h : H p = none) (o : HO) : But s H (upd H' p o) := fun a u ha n => by
  rw [upd_ne (ne_of_none ha h)]; exact e a u ha n

/-- the list at s from which a script is drawn (what is left of a number, the numbers at l, the place, the seed) -/
def St (H : Hp) (s l : Addr) : Prop := ∃ (v at0 sd : Int) (ns : List Int), H s = some (.lst [.int v, .ref l, .int at0, .int sd]) ∧ H l = some (.lst (ns.map V.int)) ∧
  0 ≤ at0 ∧ at0 ≤ (ns.length : Int) ∧ 0 ≤ v ∧ 0 ≤ sd ∧ sd < 2147483648 ∧ ns.length ≤ 63
theorem St.ne_list {H : Hp} {s l : Addr} {ns : List Int} {v at0 sd : Int} {l' : Addr} (h : H s = some (.lst [.int v, .ref l', .int at0, .int sd])) (q : H l = some (.lst (ns.map V.int))) : l ≠ s := by
  intro e; subst e
  rw [h] at q
  injection q with q; injection q with q
  match ns, q with
  | [], q => cases q
  | [_], q => injection q with _ q; cases q
  | _ :: _ :: _, q => injection q with _ q; injection q with q _; cases q
theorem St.ne {H : Hp} {s l : Addr} (h : St H s l) : l ≠ s := by
  obtain ⟨v, a, d, ns, h1, h2, r⟩ := h
  exact St.ne_list h1 h2
theorem St.same {H H' : Hp} {s l : Addr} (h : St H s l) (b : Same H H') : St H' s l := by
  obtain ⟨v, a, d, ns, h1, h2, r⟩ := h
  exact ⟨v, a, d, ns, b _ _ h1, b _ _ h2, r⟩
theorem St.lst {H : Hp} {s l : Addr} (h : St H s l) : ∃ v a d : Int, H s = some (.lst [.int v, .ref l, .int a, .int d]) := by
  obtain ⟨v, a, d, ns, h1, _⟩ := h
  exact ⟨_, _, _, h1⟩
theorem St.nums {H : Hp} {s l : Addr} (h : St H s l) : ∃ ns : List Int, H l = some (.lst (ns.map V.int)) := by
  obtain ⟨v, a, d, ns, h1, h2, _⟩ := h
  exact ⟨_, h2⟩
theorem St.upd {H : Hp} {s l D : Addr} {o : HO} (h : St H s l) (n1 : s ≠ D) (n2 : l ≠ D) : St (upd H D o) s l := by
  obtain ⟨v, a, d, ns, h1, h2, r⟩ := h
  exact ⟨v, a, d, ns, by rw [upd_ne n1]; exact h1, by rw [upd_ne n2]; exact h2, r⟩
/-- an address that was free -/
theorem St.free {H : Hp} {s l D : Addr} (h : St H s l) (n : H D = none) : s ≠ D ∧ l ≠ D := by
  obtain ⟨v, a, d, ns, h1, h2, r⟩ := h
  exact ⟨ne_of_none h1 n, ne_of_none h2 n⟩
theorem St.but {H H' : Hp} {s l p : Addr} (h : St H s l) (b : But p H H') (n1 : s ≠ p) (n2 : l ≠ p) : St H' s l := by
  obtain ⟨v, a, d, ns, h1, h2, r⟩ := h
  exact ⟨v, a, d, ns, b _ _ h1 n1, b _ _ h2 n2, r⟩
theorem St.tu {H H' : Hp} {s l : Addr} (h : St H s l) (b : But s H H') : Tu H H' := fun a xs e => b a _ e fun z => by
  obtain ⟨_, _, _, q⟩ := h.lst
  rw [z, q] at e; cases e
/-- an object of another kind than the state's -/
theorem St.ne_tup {H : Hp} {s l a : Addr} {xs : List V} (h : St H s l) (e : H a = some (.tup xs)) : a ≠ s := fun z => by
  obtain ⟨_, _, _, q⟩ := h.lst
  rw [z, q] at e; cases e
theorem St.ne_dK {H : Hp} {s l a : Addr} {xs} (h : St H s l) (e : H a = some (.dK xs)) : a ≠ s := fun z => by
  obtain ⟨_, _, _, q⟩ := h.lst
  rw [z, q] at e; cases e

/-! ### names and operations -/
def Low (z : Str) : Prop := ∀ c ∈ z.cps.toList, 97 ≤ c ∧ c ≤ 122
/-- drawn names -/
structure Names (fs : List Str) : Prop where
  low : ∀ f ∈ fs, Low f
  lo : ∀ f ∈ fs, 1 ≤ f.length
  hi : ∀ f ∈ fs, f.length ≤ 7
  nd : fs.Nodup
/-- drawn operations at o -/
def Ops (H : Hp) (o : Addr) (fs : List Str) : Prop := Names fs ∧ (fs.length = 4 ∨ fs.length = 5) ∧ ∃ as : List Addr, H o = some (.lst (as.map V.ref)) ∧ as.length = fs.length ∧
  ∀ (k : Nat) (f : Str) (a : Addr), fs[k]? = some f → as[k]? = some a → H a = some (.tup [.str f, .int (ar k)])
theorem Ops.ne {H : Hp} {o s l : Addr} {fs : List Str} (h : Ops H o fs) (q : St H s l) : o ≠ s := by
  obtain ⟨_, hl, as, h1, h2, _⟩ := h
  obtain ⟨v, a, d, ns, e, _⟩ := q
  intro z; subst z
  rw [h1] at e
  injection e with e; injection e with e
  match as, e with
  | [], e => cases e
  | x :: _, e => injection e with e _; cases e
theorem Ops.but {H H' : Hp} {o s l : Addr} {fs : List Str} (h : Ops H o fs) (q : St H s l) (b : But s H H') : Ops H' o fs := by
  have ne := h.ne q
  obtain ⟨n, hl, as, h1, h2, h3⟩ := h
  exact ⟨n, hl, as, b _ _ h1 ne, h2, fun k f a e e' => b _ _ (h3 k f a e e') (q.ne_tup (h3 k f a e e'))⟩
theorem Ops.same {H H' : Hp} {o : Addr} {fs : List Str} (h : Ops H o fs) (b : Same H H') : Ops H' o fs := by
  obtain ⟨n, hl, as, h1, h2, h3⟩ := h
  exact ⟨n, hl, as, b _ _ h1, h2, fun k f a e e' => b _ _ (h3 k f a e e')⟩
theorem Ops.get {H : Hp} {o : Addr} {fs : List Str} (h : Ops H o fs) {k : Nat} (hk : k < fs.length) : ∃ (xs : List V) (a : Addr) (f : Str), H o = some (.lst xs) ∧ xs.length = fs.length ∧ xs[k]? = some (.ref a) ∧ fs[k]? = some f ∧ H a = some (.tup [.str f, .int (ar k)]) := by
  obtain ⟨n, hl, as, h1, h2, h3⟩ := h
  have hk' : k < as.length := by omega
  refine ⟨_, as[k], fs[k], h1, by rw [List.length_map, h2], ?_, List.getElem?_eq_getElem hk, h3 k _ _ (List.getElem?_eq_getElem hk) (List.getElem?_eq_getElem hk')⟩
  rw [List.getElem?_map, List.getElem?_eq_getElem hk']; rfl

/-! ### rules whose readings name the written part -/
def rLenS (K : PySem.W.Frag) : List V → Hp → VK → Prop := fun xs H Q => ∃ p ys, xs = [.ref p] ∧ (SqL K H p ys ∨ SqT K H p ys) ∧ Q (.int ys.length) H
def rListS (K : PySem.W.Frag) : List V → Hp → VK → Prop := fun xs H Q => ∃ p ys, xs = [.ref p] ∧ (SqL K H p ys ∨ SqT K H p ys) ∧ ∀ l, H l = none → Q (.ref l) (upd H l (.lst ys))
def rTupS (K : PySem.W.Frag) : List V → Hp → VK → Prop := fun xs H Q => ∃ p ys, xs = [.ref p] ∧ ((SqL K H p ys ∧ ∀ l, H l = none → Q (.ref l) (upd H l (.tup ys))) ∨ (SqT K H p ys ∧ Q (.ref p) H))
section
variable {X : Cx}
theorem j_len : CallR X (.builtin "len") (rLenS X.K) := call_len_seq
theorem j_list : CallR X (.type "list") (rListS X.K) := call_list_of
theorem j_tuple : CallR X (.type "tuple") (rTupS X.K) := call_tuple_of
end
/-! ### two ways meet again ahead of the rest -/
theorem seq_join {t u : TS} {D : Ends} {σ : L2.St} {H : Hp} (I : L2.St → Hp → Prop) (h2 : ∀ σ' H', I σ' H' → u D σ' H') (h1 : ∀ N : L2.St → Hp → Prop, (∀ σ' H', I σ' H' → N σ' H') → t { D with nx := N } σ H) : tSeq t u D σ H := h1 (u D) h2
theorem int_of {i j : Int} (h : (V.bl (decide (i = j))) = .bl true) : i = j := by
  injection h with h; exact of_decide_eq_true h
theorem fmod_0 {a m : Int} (h : 1 ≤ m) : 0 ≤ a.fmod m := by
  rw [Int.fmod_eq_emod_of_nonneg _ (by omega)]; exact Int.emod_nonneg _ (by omega)
theorem fmod_lt {a m : Int} (h : 1 ≤ m) : a.fmod m < m := by
  rw [Int.fmod_eq_emod_of_nonneg _ (by omega)]; exact Int.emod_lt_of_pos _ (by omega)
theorem at_int {ns : List Int} {k : Int} (h0 : 0 ≤ k) (h : k < (ns.length : Int)) : ∃ n, atI (ns.map V.int) k = some (.int n) := by
  have hk : k.toNat < ns.length := by omega
  have q : atI (ns.map V.int) ((k.toNat : Nat) : Int) = some (.int ns[k.toNat]) := atI_nat (by rw [List.getElem?_map, List.getElem?_eq_getElem hk]; rfl)
  rw [Int.toNat_of_nonneg h0] at q
  exact ⟨_, q⟩
theorem at_get {xs : List V} {k : Int} {v : V} (h0 : 0 ≤ k) (h : xs[k.toNat]? = some v) : atI xs k = some v := by
  have q : atI xs ((k.toNat : Nat) : Int) = some v := atI_nat h
  rw [Int.toNat_of_nonneg h0] at q
  exact q
/-! ### contracts that nothing meets -/
theorem fn_none {P : Program} {w : World} {K : PySem.W.Frag} {mg : Str → Option Value} {base : Heap} {CX : CXT} {f : Addr} {fd : FuncData} {ps : List Str} {sp : Sp} {k : Nat} (no : ∀ vs H Q E, ¬ sp vs H Q E) : FnOk P w K mg base CX k f fd ps sp :=
  ⟨fun vs H Q E h => absurd h (no vs H Q E), fun _ _ _ _ _ _ vs Q E _ _ _ _ h => absurd h (no vs _ Q E)⟩
end J
/-! ### isinstance, slices of terms -/
namespace J
open PySem L2
section
variable {K : PySem.W.Frag} {H : Hp} {Q : VK}
theorem isi {x : V} {n m : String} {b : Bool} (ty : TyX K H x (.type n)) (h : kitB n m = some b) (q : Q (.bl b) H) : rIsi K [x, .ty m] H Q := ⟨x, .ty m, .type n, .type m, b, rfl, .ty m, ty, kit_ty h, q⟩
theorem isi_int {i : Int} {m : String} {b : Bool} (h : kitB "int" m = some b) (q : Q (.bl b) H) : rIsi K [.int i, .ty m] H Q := isi (.base (.int i)) h q
theorem isi_str {x : Str} {m : String} {b : Bool} (h : kitB "str" m = some b) (q : Q (.bl b) H) : rIsi K [.str x, .ty m] H Q := isi (.base (.str x)) h q
theorem isi_tup {a : Addr} {xs : List V} {m : String} {b : Bool} (e : H a = some (.tup xs)) (h : kitB "tuple" m = some b) (q : Q (.bl b) H) : rIsi K [.ref a, .ty m] H Q := isi (.base (.tup e)) h q
theorem isi_lst {a : Addr} {xs : List V} {m : String} {b : Bool} (e : H a = some (.lst xs)) (h : kitB "list" m = some b) (q : Q (.bl b) H) : rIsi K [.ref a, .ty m] H Q := isi (.base (.lst e)) h q
theorem isi_dK {a : Addr} {xs} {m : String} {b : Bool} (e : H a = some (.dK xs)) (h : kitB "dict" m = some b) (q : Q (.bl b) H) : rIsi K [.ref a, .ty m] H Q := isi (.base (.dK e)) h q
theorem isi_bl {i : Bool} {m : String} {b : Bool} (h : kitB "bool" m = some b) (q : Q (.bl b) H) : rIsi K [.bl i, .ty m] H Q := isi (.base (.bl i)) h q
end
theorem cut1 (x : V) (vs : List V) : cutV (x :: vs) (some 1) none = vs := by
  unfold cutV
  have e1 : HT.sIx (x :: vs).length 0 (some 1) = 1 := by
    show min 1 (vs.length + 1) = 1
    omega
  have e2 : HT.sIx (x :: vs).length (x :: vs).length none = vs.length + 1 := rfl
  rw [e1, e2]
  simp
theorem sl1c (x : V) (vs : List V) : ¬ (HT.sIx (x :: vs).length 0 (some 1) = 0 ∧ HT.sIx (x :: vs).length (x :: vs).length none = (x :: vs).length) := by
  intro ⟨z, _⟩
  have e1 : HT.sIx (x :: vs).length 0 (some 1) = 1 := by
    show min 1 (vs.length + 1) = 1
    omega
  rw [e1] at z; cases z
theorem at_zero {x : V} {xs : List V} : atI (x :: xs) 0 = some x := atI_nat (j := 0) rfl
/-- t[1:] of an application -/
theorem sl1 {K : PySem.W.Frag} {H : Hp} {Q : VK} {a : Addr} {x : V} {vs : List V} (h : H a = some (.tup (x :: vs))) (q : ∀ p, H p = none → Q (.ref p) (upd H p (.tup vs))) : rSlT K (.ref a) (some 1) none H Q := by
  refine ⟨a, _, rfl, SqT.of h, ?_, ?_⟩
  · intro ⟨z, _⟩
    have e1 : HT.sIx (x :: vs).length 0 (some 1) = 1 := by
      show min 1 (vs.length + 1) = 1
      omega
    rw [e1] at z; cases z
  · rw [cut1]; exact q
theorem But.same {s : Addr} {H H' : Hp} (b : But s H H') {H0 : Hp} (k : Same H0 H) (n : H0 s = none) : Same H0 H' := fun a o e => b a o (k a o e) (ne_of_none e n)
theorem But.upd {s : Addr} {H H' : Hp} (b : But s H H') (o : HO) : But s H (upd H' s o) := b.trans (but_upd o)
theorem but_tu {s : Addr} {H H' : Hp} (b : But s H H') (h : ∀ xs, H s ≠ some (.tup xs)) : Tu H H' := fun a xs e => b a _ e fun z => by
  rw [z] at e; exact h _ e
theorem lst_not_tup {H : Hp} {p : Addr} {ys : List V} (h : H p = some (.lst ys)) : ∀ xs, H p ≠ some (.tup xs) := fun xs e => by
  rw [h] at e; cases e
theorem TmIn.dep_arg {f : Str} {ts : List Tm} {t : Tm} {N : Nat} (h : (Tm.app f ts).dep ≤ N + 1) (m : t ∈ ts) : t.dep ≤ N := by
  have h : 1 + Tm.deps ts ≤ N + 1 := h
  have := Tm.dep_of_mem m
  omega
theorem Tm.len_le : ∀ ts : List Tm, ts.length ≤ Tm.szs ts
  | [] => Nat.le_refl _
  | u :: us => by
    have h1 := u.sz_pos
    have h2 := Tm.len_le us
    show us.length + 1 ≤ u.sz + Tm.szs us
    omega
theorem Tm.sz_arg : ∀ {ts : List Tm} {t : Tm}, t ∈ ts → t.sz ≤ Tm.szs ts
  | u :: us, t, h => by
    show t.sz ≤ u.sz + Tm.szs us
    rcases List.mem_cons.mp h with e | h
    · rw [e]; omega
    · have := Tm.sz_arg h; omega
end J
/-! ### tests by their meaning -/
namespace J
open PySem L2
theorem ifD {p : Prop} [Decidable p] {A B : Prop} (h1 : p → A) (h2 : ¬ p → B) : if decide p = true then A else B := ite2 (fun e => h1 (of_decide_eq_true e)) fun e => h2 fun z => e (decide_eq_true z)
theorem ifN {p : Prop} [Decidable p] {A B : Prop} (h1 : ¬ p → A) (h2 : p → B) : if (!decide p) = true then A else B := by
  by_cases h : p
  · rw [decide_eq_true h]; exact h2 h
  · rw [decide_eq_false h]; exact h1 h
theorem ifEq {i j : Int} {A B : Prop} (h1 : i = j → A) (h2 : i ≠ j → B) : if decide (V.int i = V.int j) = true then A else B := ifD (fun e => h1 (by injection e)) fun e => h2 fun z => e (by rw [z])
theorem ifNe {i j : Int} {A B : Prop} (h1 : i ≠ j → A) (h2 : i = j → B) : if (!decide (V.int i = V.int j)) = true then A else B := ifN (fun e => h1 fun z => e (by rw [z])) fun e => h2 (by injection e)
theorem ifEqS {i j : Str} {A B : Prop} (h1 : i = j → A) (h2 : i ≠ j → B) : if decide (V.str i = V.str j) = true then A else B := ifD (fun e => h1 (by injection e)) fun e => h2 fun z => e (by rw [z])
theorem ifNeS {i j : Str} {A B : Prop} (h1 : i ≠ j → A) (h2 : i = j → B) : if (!decide (V.str i = V.str j)) = true then A else B := ifN (fun e => h1 fun z => e (by rw [z])) fun e => h2 (by injection e)
theorem ifB {b : Bool} {A B : Prop} (h1 : b = true → A) (h2 : b = false → B) : if b = true then A else B := ite2 h1 fun e => h2 (by cases b; rfl; exact absurd rfl e)
theorem ifNB {b : Bool} {A B : Prop} (h1 : b = false → A) (h2 : b = true → B) : if (!b) = true then A else B := by
  cases b with
  | true => exact h2 rfl
  | false => exact h1 rfl
theorem list_take_succ {α : Type} {l : List α} {i : Nat} {x : α} (h : l[i]? = some x) : l.take (i + 1) = l.take i ++ [x] := by
  rw [List.take_succ, h]; rfl
end J
namespace J
open PySem L2
mutual
theorem Tm.wf_mono {fs : List Str} {B B' : Int} (h : B ≤ B') : ∀ t : Tm, t.wf fs B → t.wf fs B'
  | .var n, w => by
    have w : 0 ≤ n ∧ n < B := w
    exact ⟨w.1, by omega⟩
  | .app f ts, w => ⟨w.1, Tm.wfs_mono h ts w.2⟩
theorem Tm.wfs_mono {fs : List Str} {B B' : Int} (h : B ≤ B') : ∀ ts : List Tm, Tm.wfs fs B ts → Tm.wfs fs B' ts
  | [], _ => True.intro
  | t :: ts, w => ⟨Tm.wf_mono h t w.1, Tm.wfs_mono h ts w.2⟩
end
theorem Tm.wf.mono {fs : List Str} {B B' : Int} {t : Tm} (w : t.wf fs B) (h : B ≤ B') : t.wf fs B' := Tm.wf_mono h t w
end J

/-! ### texts as lists of signs -/
namespace J
open PySem L2

theorem len_tl (x : Str) : x.length = x.cps.toList.length := by
  show x.cps.size = _
  rw [Array.length_toList]
theorem tl_inj {x y : Str} (h : x.cps.toList = y.cps.toList) : x = y := by
  cases x; cases y
  exact congrArg Str.mk (Array.toList_inj.mp h)
theorem tl_app (x y : Str) : (x ++ y).cps.toList = x.cps.toList ++ y.cps.toList := TL.tl_append x y
theorem len_app (x y : Str) : (x ++ y).length = x.length + y.length := by
  rw [len_tl, tl_app, List.length_append, ← len_tl, ← len_tl]
/-- texts joined by nothing -/
theorem join0 : ∀ zs : List Str, (Txt.join "" zs).cps.toList = (zs.map fun z => z.cps.toList).flatten := by
  intro zs
  rw [TL.join_eq]
  show TL.tl (Str.join "" zs) = _
  rw [TL.tl_join]
  have e : TL.tl ("" : Str) = [] := rfl
  rw [e]
  induction zs with
  | nil => rfl
  | cons a r ih =>
    cases r with
    | nil => simp [TL.joinL]
    | cons b r => 
      show TL.tl a ++ ([] ++ TL.joinL [] (TL.tl b :: r.map TL.tl)) = _
      rw [List.nil_append, List.map_cons, List.flatten_cons, ← ih]
      rfl
theorem abc : ∀ k : Nat, k < 26 → ("abcdefghijklmnopqrstuvwxyz" : Str).cps.toList[k]? = some (97 + k) := by decide +kernel
theorem abc_at {r : Int} (h0 : 0 ≤ r) (h1 : r < 26) : atI ("abcdefghijklmnopqrstuvwxyz" : Str).cps.toList r = some (97 + r.toNat) := by
  have q := atI_nat (abc r.toNat (by omega))
  rw [Int.toNat_of_nonneg h0] at q
  exact q
theorem low_one {k : Nat} (h : k < 26) : Low ⟨#[97 + k]⟩ := fun c hc => by
  have hc : c ∈ [97 + k] := hc
  rw [List.mem_singleton] at hc
  omega
theorem low_app {x y : Str} (a : Low x) (b : Low y) : Low (x ++ y) := fun c hc => by
  rw [tl_app] at hc
  rcases List.mem_append.mp hc with h | h
  · exact a c h
  · exact b c h
theorem join_low {zs : List Str} (h : ∀ z ∈ zs, z.length = 1 ∧ Low z) : (Txt.join "" zs).length = zs.length ∧ Low (Txt.join "" zs) := by
  refine ⟨?_, fun c hc => ?_⟩
  · rw [len_tl, join0]
    induction zs with
    | nil => rfl
    | cons a r ih =>
      rw [List.map_cons, List.flatten_cons, List.length_append, ih fun z hz => h z (List.mem_cons_of_mem _ hz), ← len_tl, (h a (List.mem_cons_self ..)).1, List.length_cons]
      omega
  · rw [join0] at hc
    obtain ⟨l, hl, hc⟩ := List.mem_flatten.mp hc
    obtain ⟨z, hz, rfl⟩ := List.mem_map.mp hl
    exact (h z hz).2 c hc
theorem sum_ones {zs : List Str} (h : ∀ z ∈ zs, z.length = 1) : (zs.map (·.length)).sum = zs.length := by
  induction zs with
  | nil => rfl
  | cons a r ih =>
    rw [List.map_cons, List.sum_cons, ih fun z hz => h z (List.mem_cons_of_mem _ hz), h a (List.mem_cons_self ..), List.length_cons]
    omega
/-- the k-th drawn name -/
def nameAt (b e : Str) (f : Nat) (k : Nat) : Str := b ++ (⟨#[97 + (f + 3 * k) % 26]⟩ : Str) ++ e
theorem nameAt_len (b e : Str) (f k : Nat) : (nameAt b e f k).length = b.length + 1 + e.length := by
  unfold nameAt; rw [len_app, len_app]; rfl
theorem nameAt_low {b e : Str} (hb : Low b) (he : Low e) (f k : Nat) : Low (nameAt b e f k) := low_app (low_app hb (low_one (Nat.mod_lt _ (by decide)))) he
theorem nameAt_inj {b e : Str} {f i j : Nat} (hi : i < 26) (hj : j < 26) (h : nameAt b e f i = nameAt b e f j) : i = j := by
  have h1 : (nameAt b e f i).cps.toList = (nameAt b e f j).cps.toList := by rw [h]
  unfold nameAt at h1
  rw [tl_app, tl_app, tl_app, tl_app] at h1
  have h2 := List.append_cancel_right h1
  have h3 := List.append_cancel_left h2
  have h4 : 97 + (f + 3 * i) % 26 = 97 + (f + 3 * j) % 26 := by
    have h3 : [97 + (f + 3 * i) % 26] = [97 + (f + 3 * j) % 26] := h3
    injection h3
  omega
theorem names_ok {b e : Str} {f m : Nat} (hb : Low b) (he : Low e) (lb : b.length ≤ 3) (le : e.length ≤ 3) (hm : m ≤ 26) : Names ((List.range m).map (nameAt b e f)) := by
  refine ⟨fun x hx => ?_, fun x hx => ?_, fun x hx => ?_, ?_⟩
  · obtain ⟨k, _, rfl⟩ := List.mem_map.mp hx
    exact nameAt_low hb he f k
  · obtain ⟨k, _, rfl⟩ := List.mem_map.mp hx
    rw [nameAt_len]; omega
  · obtain ⟨k, _, rfl⟩ := List.mem_map.mp hx
    rw [nameAt_len]; omega
  · refine List.nodup_iff_pairwise_ne.mpr (List.pairwise_map.mpr ?_)
    refine (List.nodup_iff_pairwise_ne.mp List.nodup_range).imp_of_mem ?_
    intro i j hi hj ne h
    exact ne (nameAt_inj (by have := List.mem_range.mp hi; omega) (by have := List.mem_range.mp hj; omega) h)
end J

/-! ### symbols, variables, substitutions -/
namespace J
open PySem L2
mutual
def syms : Tm → List V
  | .var n => [.int n]
  | .app f ts => .str f :: symss ts
def symss : List Tm → List V
  | [] => []
  | t :: ts => syms t ++ symss ts
end
mutual
/-- the occurrences of variables, from left to right -/
def occ : Tm → List Int
  | .var n => [n]
  | .app _ ts => occs ts
def occs : List Tm → List Int
  | [] => []
  | t :: ts => occ t ++ occs ts
end
/-- one by one, what is not there yet -/
def adds (acc : List Int) : List Int → List Int
  | [] => acc
  | n :: r => adds (if n ∈ acc then acc else acc ++ [n]) r
def vars (t : Tm) : List Int := adds [] (occ t)
theorem adds_app : ∀ (l1 l2 acc : List Int), adds acc (l1 ++ l2) = adds (adds acc l1) l2
  | [], _, _ => rfl
  | n :: r, l2, acc => by show adds _ (r ++ l2) = adds (adds _ r) l2; rw [adds_app r l2]
theorem adds_mem : ∀ (l acc : List Int) {n : Int}, n ∈ adds acc l ↔ n ∈ acc ∨ n ∈ l
  | [], acc, n => by show n ∈ acc ↔ _; simp
  | k :: r, acc, n => by
    show n ∈ adds _ r ↔ _
    rw [adds_mem r]
    by_cases h : k ∈ acc
    · rw [if_pos h, List.mem_cons]
      constructor
      · rintro (a | a)
        · exact .inl a
        · exact .inr (.inr a)
      · rintro (a | a | a)
        · exact .inl a
        · exact .inl (a ▸ h)
        · exact .inr a
    · rw [if_neg h, List.mem_append, List.mem_singleton, List.mem_cons]
      constructor
      · rintro ((a | a) | a)
        · exact .inl a
        · exact .inr (.inl a)
        · exact .inr (.inr a)
      · rintro (a | a | a)
        · exact .inl (.inl a)
        · exact .inl (.inr a)
        · exact .inr a
theorem adds_nodup : ∀ (l acc : List Int), acc.Nodup → (adds acc l).Nodup
  | [], _, h => h
  | k :: r, acc, h => by
    show (adds _ r).Nodup
    refine adds_nodup r _ ?_
    by_cases hk : k ∈ acc
    · rw [if_pos hk]; exact h
    · rw [if_neg hk]
      refine List.nodup_append.mpr ⟨h, (by simp), fun a ha b hb => ?_⟩
      rw [List.mem_singleton] at hb
      exact fun e => hk (by rw [← hb, ← e]; exact ha)
theorem adds_two : ∀ (l b acc : List Int), adds acc (adds b l) = adds (adds acc b) l
  | [], _, _ => rfl
  | n :: r, b, acc => by
    show adds acc (adds _ r) = adds _ r
    rw [adds_two r]
    by_cases h : n ∈ b
    · rw [if_pos h, if_pos ((adds_mem b acc).mpr (.inr h))]
    · rw [if_neg h, adds_app]
      rfl
theorem adds_len : ∀ (l acc : List Int), (adds acc l).length ≤ acc.length + l.length
  | [], _ => Nat.le_refl _
  | n :: r, acc => by
    have := adds_len r (if n ∈ acc then acc else acc ++ [n])
    show (adds _ r).length ≤ acc.length + (r.length + 1)
    have h2 : (if n ∈ acc then acc else acc ++ [n]).length ≤ acc.length + 1 := by
      by_cases h : n ∈ acc
      · rw [if_pos h]; omega
      · rw [if_neg h, List.length_append]; exact Nat.le_refl _
    omega
def intsOf (l : List V) : List Int := l.filterMap fun v => match v with | .int n => some n | _ => none
theorem intsOf_app (a b : List V) : intsOf (a ++ b) = intsOf a ++ intsOf b := List.filterMap_append ..
mutual
theorem ints_syms : ∀ t : Tm, intsOf (syms t) = occ t
  | .var n => rfl
  | .app f ts => by show intsOf (symss ts) = occs ts; exact ints_symss ts
theorem ints_symss : ∀ ts : List Tm, intsOf (symss ts) = occs ts
  | [] => rfl
  | t :: ts => by show intsOf (syms t ++ symss ts) = occ t ++ occs ts; rw [intsOf_app, ints_syms t, ints_symss ts]
end
mutual
theorem syms_len : ∀ t : Tm, (syms t).length = t.sz
  | .var _ => rfl
  | .app f ts => by show (symss ts).length + 1 = 1 + Tm.szs ts; rw [symss_len ts]; omega
theorem symss_len : ∀ ts : List Tm, (symss ts).length = Tm.szs ts
  | [] => rfl
  | t :: ts => by show (syms t ++ symss ts).length = t.sz + Tm.szs ts; rw [List.length_append, syms_len t, symss_len ts]
end
mutual
theorem occ_len : ∀ t : Tm, (occ t).length ≤ t.sz
  | .var _ => Nat.le_refl _
  | .app f ts => by show (occs ts).length ≤ 1 + Tm.szs ts; have := occs_len ts; omega
theorem occs_len : ∀ ts : List Tm, (occs ts).length ≤ Tm.szs ts
  | [] => Nat.le_refl _
  | t :: ts => by show (occ t ++ occs ts).length ≤ t.sz + Tm.szs ts; have := occ_len t; have := occs_len ts; rw [List.length_append]; omega
end
theorem symss_app : ∀ a b : List Tm, symss (a ++ b) = symss a ++ symss b
  | [], _ => rfl
  | t :: ts, b => by show syms t ++ symss (ts ++ b) = (syms t ++ symss ts) ++ symss b; rw [symss_app ts b, List.append_assoc]
theorem szs_app : ∀ a b : List Tm, Tm.szs (a ++ b) = Tm.szs a + Tm.szs b
  | [], _ => by show _ = 0 + _; rw [Nat.zero_add]; rfl
  | t :: ts, b => by show t.sz + Tm.szs (ts ++ b) = (t.sz + Tm.szs ts) + Tm.szs b; rw [szs_app ts b]; omega
theorem szs_rev : ∀ a : List Tm, Tm.szs a.reverse = Tm.szs a
  | [] => rfl
  | t :: ts => by
    rw [List.reverse_cons, szs_app, szs_rev ts]
    show Tm.szs ts + (t.sz + 0) = t.sz + Tm.szs ts
    omega
theorem TmsIn.rev {H : Hp} : ∀ {ts : List Tm} {vs : List V}, TmsIn H ts vs → TmsIn H ts.reverse vs.reverse
  | [], _, h => by cases (show _ = [] from h); rfl
  | t :: ts, _, ⟨v, r, rfl, h, q⟩ => by
    rw [List.reverse_cons, List.reverse_cons]
    exact TmsIn.append (TmsIn.rev q) (TmsIn.one h)
theorem TmsIn.snoc {H : Hp} {ts : List Tm} {vs : List V} {v : V} (h : TmsIn H ts vs) (e : vs[vs.length - 1]? = some v) : ∃ us t, ts = us ++ [t] ∧ TmIn H t v ∧ TmsIn H us vs.dropLast := by
  have hl := h.length
  rcases List.eq_nil_or_concat ts with z | ⟨us, t, z⟩
  · subst z
    have : vs = [] := List.length_eq_zero_iff.mp (by rw [hl]; rfl)
    subst this
    simp at e
  · rw [List.concat_eq_append] at z
    subst z
    have hn : vs ≠ [] := fun w => by rw [w] at hl; simp at hl
    have e2 : vs = vs.dropLast ++ [v] := by
      have h1 := List.dropLast_concat_getLast hn
      have h2 : vs.getLast hn = v := by
        rw [List.getLast_eq_getElem]
        have := List.getElem?_eq_some_iff.mp e
        exact this.2
      rw [h2] at h1
      exact h1.symm
    have key : ∀ (us : List Tm) (ws : List V) (t : Tm) (v : V), us.length = ws.length → TmsIn H (us ++ [t]) (ws ++ [v]) → TmIn H t v ∧ TmsIn H us ws := by
      intro us
      induction us with
      | nil =>
        intro ws t v hl q
        have : ws = [] := List.length_eq_zero_iff.mp hl.symm
        subst this
        obtain ⟨a, r, e, h1, _⟩ := q
        injection e with e _
        exact ⟨e ▸ h1, rfl⟩
      | cons u us ih =>
        intro ws t v hl q
        match ws, hl with
        | w :: ws, hl =>
          obtain ⟨a, r, e, h1, h2⟩ := q
          injection e with e1 e2
          subst e1
          have := ih ws t v (by simpa using hl) (by rw [← e2] at h2; exact h2)
          exact ⟨this.1, w, ws, rfl, h1, this.2⟩
    rw [e2] at h
    have hl2 : us.length = vs.dropLast.length := by rw [List.length_dropLast, hl, List.length_append]; simp
    have q := key us _ t v hl2 h
    exact ⟨us, t, rfl, q.1, q.2⟩
mutual
theorem Tm.dep_le_sz : ∀ t : Tm, t.dep ≤ t.sz
  | .var _ => Nat.le_refl _
  | .app _ ts => by show 1 + Tm.deps ts ≤ 1 + Tm.szs ts; have := Tm.deps_le_szs ts; omega
theorem Tm.deps_le_szs : ∀ ts : List Tm, Tm.deps ts ≤ Tm.szs ts
  | [] => Nat.le_refl _
  | t :: ts => by show max t.dep (Tm.deps ts) ≤ t.sz + Tm.szs ts; have := Tm.dep_le_sz t; have := Tm.deps_le_szs ts; omega
end
theorem occs_app : ∀ a b : List Tm, occs (a ++ b) = occs a ++ occs b
  | [], _ => rfl
  | t :: ts, b => by show occ t ++ occs (ts ++ b) = (occ t ++ occs ts) ++ occs b; rw [occs_app ts b, List.append_assoc]
theorem szs_take (ts : List Tm) (i : Nat) : Tm.szs (ts.take i) ≤ Tm.szs ts := by
  have h := szs_app (ts.take i) (ts.drop i)
  rw [List.take_append_drop] at h
  omega
theorem map_get {l : List Int} {i : Nat} {y : V} (h : (l.map V.int)[i]? = some y) : ∃ n, l[i]? = some n ∧ y = .int n := by
  rw [List.getElem?_map] at h
  cases e : l[i]? with
  | none => rw [e] at h; cases h
  | some n => rw [e] at h; exact ⟨n, rfl, (Option.some.inj h).symm⟩
theorem inV_ints (n : Int) : ∀ l : List Int, inV (.int n) (l.map V.int) = decide (n ∈ l) := by
  intro l
  unfold inV
  rw [List.any_map]
  refine Bool.eq_iff_iff.mpr ?_
  rw [List.any_eq_true, decide_eq_true_iff]
  constructor
  · rintro ⟨x, hx, e⟩
    have e : (x == n) = true := e
    rw [← eq_of_beq e]; exact hx
  · intro h
    exact ⟨n, h, beq_self_eq_true n⟩
mutual
theorem syms_kind : ∀ (t : Tm) (y : V), y ∈ syms t → (∃ n, y = .int n) ∨ ∃ f, y = .str f
  | .var n, y, h => .inl ⟨n, by simpa [syms] using h⟩
  | .app f ts, y, h => by
    rcases List.mem_cons.mp (show y ∈ V.str f :: symss ts from h) with e | h
    · exact .inr ⟨f, e⟩
    · exact symss_kind ts y h
theorem symss_kind : ∀ (ts : List Tm) (y : V), y ∈ symss ts → (∃ n, y = .int n) ∨ ∃ f, y = .str f
  | [], _, h => nomatch h
  | t :: ts, y, h => by
    rcases List.mem_append.mp (show y ∈ syms t ++ symss ts from h) with h | h
    · exact syms_kind t y h
    · exact symss_kind ts y h
end
/-- a dict of True by ints -/
def kd (l : List Int) : List (Key × V) := l.map fun n => (.inl n, .bl true)
theorem kd_val (l : List Int) (n : Int) : valV (kd l) (.inl n) = if n ∈ l then some (.bl true) else none := by
  induction l with
  | nil => rfl
  | cons a r ih =>
    by_cases h : a = n
    · subst h
      rw [if_pos (List.mem_cons_self ..)]
      exact valV_pos (p := ((.inl a : Key), V.bl true)) rfl
    · have e : ¬ ((Sum.inl a : Key) = .inl n) := fun z => h (Sum.inl.inj z)
      show valV (((.inl a : Key), V.bl true) :: kd r) (.inl n) = _
      rw [valV_neg e, ih]
      by_cases h2 : n ∈ r
      · rw [if_pos h2, if_pos (List.mem_cons_of_mem _ h2)]
      · rw [if_neg h2, if_neg fun z => (List.mem_cons.mp z).elim (fun z => h z.symm) h2]
theorem kd_put (l : List Int) (n : Int) : putK (kd l) (.inl n) (.bl true) = kd (if n ∈ l then l else l ++ [n]) := by
  by_cases h : n ∈ l
  · rw [if_pos h]
    unfold putK
    rw [if_pos (by rw [valV_any, kd_val, if_pos h]; rfl)]
    unfold kd
    rw [List.map_map]
    refine List.map_congr_left fun a _ => ?_
    show (if (Sum.inl a : Key) = .inl n then ((Sum.inl a : Key), V.bl true) else _) = _
    by_cases e : (Sum.inl a : Key) = .inl n
    · rw [if_pos e]
    · rw [if_neg e]
  · rw [if_neg h, putK_new _ (by rw [kd_val, if_neg h])]
    unfold kd
    rw [List.map_append]; rfl
theorem kd_len (l : List Int) : (kd l).length = l.length := List.length_map _

/-! substitutions -/
mutual
def sub (m : Int → Option Tm) : Tm → Tm
  | .var n => (m n).getD (.var n)
  | .app f ts => .app f (subs m ts)
def subs (m : Int → Option Tm) : List Tm → List Tm
  | [] => []
  | t :: ts => sub m t :: subs m ts
end
theorem subs_map (m : Int → Option Tm) : ∀ ts, subs m ts = ts.map (sub m)
  | [] => rfl
  | t :: ts => by show sub m t :: subs m ts = _; rw [subs_map m ts]; rfl
/-- the dict at d says what m says -/
def SbIn (H : Hp) (d : Addr) (m : Int → Option Tm) : Prop := ∃ kvs : List (Key × V), H d = some (.dK kvs) ∧ ∀ n, match m n with
  | none => valV kvs (.inl n) = none
  | some t => ∃ v, valV kvs (.inl n) = some v ∧ TmIn H t v
theorem SbIn.mono {H H' : Hp} {d : Addr} {m : Int → Option Tm} (h : SbIn H d m) (t : Tu H H') (e : ∀ kvs, H d = some (.dK kvs) → H' d = some (.dK kvs)) : SbIn H' d m := by
  obtain ⟨kvs, h1, h2⟩ := h
  refine ⟨kvs, e _ h1, fun n => ?_⟩
  have := h2 n
  cases hm : m n with
  | none => rw [hm] at this; exact this
  | some u =>
    rw [hm] at this
    obtain ⟨v, a, b⟩ := this
    exact ⟨v, a, b.tu t⟩
theorem SbIn.same {H H' : Hp} {d : Addr} {m : Int → Option Tm} (h : SbIn H d m) (s : Same H H') : SbIn H' d m := h.mono (tu_same s) fun _ e => s _ _ e
theorem SbIn.at {H : Hp} {d : Addr} {m : Int → Option Tm} (h : SbIn H d m) : ∃ kvs, H d = some (.dK kvs) := let ⟨k, e, _⟩ := h; ⟨k, e⟩
/-- d.get(n, n) -/
theorem SbIn.get {H : Hp} {d : Addr} {m : Int → Option Tm} (h : SbIn H d m) (n : Int) : ∃ o, DGet H d (.int n) o ∧ TmIn H ((m n).getD (.var n)) (o.getD (.int n)) := by
  obtain ⟨kvs, h1, h2⟩ := h
  have := h2 n
  refine ⟨valV kvs (.inl n), DGet.k (k := Sum.inl n) h1, ?_⟩
  cases hm : m n with
  | none => rw [hm] at this; rw [this]; rfl
  | some u =>
    rw [hm] at this
    obtain ⟨v, a, b⟩ := this
    rw [a]; exact b
theorem SbIn.put {H : Hp} {d : Addr} {m : Int → Option Tm} {kvs : List (Key × V)} (h1 : H d = some (.dK kvs)) (h2 : ∀ n, match m n with | none => valV kvs (.inl n) = none | some t => ∃ v, valV kvs (.inl n) = some v ∧ TmIn H t v)
    {H' : Hp} (tu : Tu H H') {k : Int} {t : Tm} {v : V} (ht : TmIn H' t v) (e : H' d = some (.dK (putK kvs (.inl k) v))) : SbIn H' d (fun n => if n = k then some t else m n) := by
  refine ⟨_, e, fun n => ?_⟩
  have := h2 n
  rw [valV_put]
  by_cases hn : n = k
  · subst hn
    simp only [if_true]
    exact ⟨v, rfl, ht⟩
  · have hn' : ¬ ((Sum.inl n : Key) = .inl k) := fun z => hn (Sum.inl.inj z)
    simp only [if_neg hn, if_neg hn']
    cases hm : m n with
    | none => rw [hm] at this; exact this
    | some u =>
      rw [hm] at this
      obtain ⟨w, a, b⟩ := this
      exact ⟨w, a, b.tu tu⟩

/-! while xs: -/
theorem while_list {K : PySem.W.Frag} {i : Nat} {tb : TS} {D : Ends} {σ : L2.St} {H : Hp} (Pv : L2.St → Hp → Prop) (μ : L2.St → Hp → Nat) (h0 : Pv σ H)
    (hs : ∀ σ H, Pv σ H → ∃ p xs, σ[i]? = some (some (.ref p)) ∧ H p = some (.lst xs) ∧ (xs = [] → D.nx σ H) ∧ (xs ≠ [] → tb { D with nx := fun σ' H' => Pv σ' H' ∧ μ σ' H' < μ σ H, ct := fun σ' H' => Pv σ' H' ∧ μ σ' H' < μ σ H, bk := D.nx } σ H)) :
    tWhile (fun σ H Q => tVar i σ H fun x H' => ∃ k, TruV K x H' k ∧ Q k H') tb D σ H := by
  refine while_by Pv μ h0 (fun σ H p => ?_) fun σ H Q Q' m ⟨v, e, k, t, q⟩ => ⟨v, e, k, t, m _ _ q⟩
  obtain ⟨a, xs, e, hp, h1, h2⟩ := hs σ H p
  refine ⟨_, e, _, .inl ⟨xs, SqL.of hp, rfl⟩, ?_⟩
  cases xs with
  | nil => exact h1 rfl
  | cons x xs => exact h2 (List.cons_ne_nil _ _)
end J

/-! ### positions -/
namespace J
open PySem L2
mutual
def poss : Tm → List (List Int)
  | .var _ => [[]]
  | .app _ ts => [] :: posss 1 ts
def posss : Nat → List Tm → List (List Int)
  | _, [] => []
  | k, t :: ts => (poss t).map (fun q => (k : Int) :: q) ++ posss (k + 1) ts
end
/-- q is a position of t -/
def IsPos : List Int → Tm → Prop
  | [], _ => True
  | k :: q, .app _ ts => 1 ≤ k ∧ ∃ t, ts[(k - 1).toNat]? = some t ∧ IsPos q t
  | _ :: _, .var _ => False
def rep (u : Tm) : List Int → Tm → Tm
  | [], _ => u
  | k :: q, .app f ts => .app f (ts.set (k - 1).toNat (rep u q (ts.getD (k - 1).toNat u)))
  | _ :: _, .var n => .var n
/-- the subterm at q -/
def at? : List Int → Tm → Option Tm
  | [], t => some t
  | k :: q, .app _ ts => if 1 ≤ k then (ts[(k - 1).toNat]?).bind (at? q) else none
  | _ :: _, .var _ => none
mutual
theorem poss_is : ∀ (t : Tm) (q : List Int), q ∈ poss t → IsPos q t ∧ q.length < t.dep
  | .var n, q, h => by
    rw [List.mem_singleton.mp (show q ∈ [[]] from h)]
    exact ⟨trivial, Nat.one_pos⟩
  | .app f ts, q, h => by
    rcases List.mem_cons.mp (show q ∈ [] :: posss 1 ts from h) with e | h
    · rw [e]; exact ⟨trivial, Tm.dep_pos (.app f ts)⟩
    · obtain ⟨j, t, r, rfl, ht, h1, h2⟩ := posss_is 1 ts q h
      have hm := Tm.dep_of_mem (List.mem_of_getElem? ht)
      refine ⟨⟨by omega, t, ?_, h1⟩, ?_⟩
      · have : (((1 + j : Nat) : Int) - 1).toNat = j := by omega
        rw [this]; exact ht
      · show r.length + 1 < 1 + Tm.deps ts
        omega
theorem posss_is : ∀ (k : Nat) (ts : List Tm) (q : List Int), q ∈ posss k ts → ∃ (j : Nat) (t : Tm) (r : List Int), q = ((k + j : Nat) : Int) :: r ∧ ts[j]? = some t ∧ IsPos r t ∧ r.length < t.dep
  | _, [], _, h => nomatch h
  | k, t :: ts, q, h => by
    rcases List.mem_append.mp (show q ∈ (poss t).map (fun q => (k : Int) :: q) ++ posss (k + 1) ts from h) with h | h
    · obtain ⟨r, hr, rfl⟩ := List.mem_map.mp h
      have := poss_is t r hr
      exact ⟨0, t, r, rfl, rfl, this.1, this.2⟩
    · obtain ⟨j, u, r, rfl, hu, h1, h2⟩ := posss_is (k + 1) ts q h
      exact ⟨j + 1, u, r, by rw [show k + 1 + j = k + (j + 1) by omega], by rw [List.getElem?_cons_succ]; exact hu, h1, h2⟩
end
mutual
theorem poss_len : ∀ t : Tm, (poss t).length = t.sz
  | .var _ => rfl
  | .app f ts => by show (posss 1 ts).length + 1 = 1 + Tm.szs ts; rw [posss_len 1 ts]; omega
theorem posss_len : ∀ (k : Nat) (ts : List Tm), (posss k ts).length = Tm.szs ts
  | _, [] => rfl
  | k, t :: ts => by
    show ((poss t).map (fun q => (k : Int) :: q) ++ posss (k + 1) ts).length = t.sz + Tm.szs ts
    rw [List.length_append, List.length_map, poss_len t, posss_len (k + 1) ts]
end
theorem posss_app : ∀ (a b : List Tm) (k : Nat), posss k (a ++ b) = posss k a ++ posss (k + a.length) b
  | [], _, _ => rfl
  | t :: ts, b, k => by
    show (poss t).map (fun q => (k : Int) :: q) ++ posss (k + 1) (ts ++ b) = ((poss t).map (fun q => (k : Int) :: q) ++ posss (k + 1) ts) ++ posss (k + (ts.length + 1)) b
    rw [posss_app ts b, List.append_assoc, show k + 1 + ts.length = k + (ts.length + 1) by omega]
/-- a list of tuples of ints -/
def PosIn (H : Hp) (p : Addr) (ps : List (List Int)) : Prop := ∃ as : List Addr, H p = some (.lst (as.map V.ref)) ∧ as.length = ps.length ∧ ∀ (k : Nat) (a : Addr) (q : List Int), as[k]? = some a → ps[k]? = some q → H a = some (.tup (q.map V.int))
theorem PosIn.get {H : Hp} {p : Addr} {ps : List (List Int)} (h : PosIn H p ps) {k : Nat} (hk : k < ps.length) : ∃ (xs : List V) (a : Addr) (q : List Int), H p = some (.lst xs) ∧ xs.length = ps.length ∧ xs[k]? = some (.ref a) ∧ ps[k]? = some q ∧ H a = some (.tup (q.map V.int)) := by
  obtain ⟨as, h1, h2, h3⟩ := h
  have hk' : k < as.length := by omega
  exact ⟨_, as[k], ps[k], h1, by rw [List.length_map, h2], by rw [List.getElem?_map, List.getElem?_eq_getElem hk']; rfl, List.getElem?_eq_getElem hk, h3 k _ _ (List.getElem?_eq_getElem hk') (List.getElem?_eq_getElem hk)⟩
theorem PosIn.mono {H H' : Hp} {p : Addr} {ps : List (List Int)} (h : PosIn H p ps) (t : Tu H H') (e : ∀ xs, H p = some (.lst xs) → H' p = some (.lst xs)) : PosIn H' p ps := by
  obtain ⟨as, h1, h2, h3⟩ := h
  exact ⟨as, e _ h1, h2, fun k a q ea eq => t _ _ (h3 k a q ea eq)⟩
theorem PosIn.same {H H' : Hp} {p : Addr} {ps : List (List Int)} (h : PosIn H p ps) (s : Same H H') : PosIn H' p ps := h.mono (tu_same s) fun _ e => s _ _ e
theorem PosIn.push {H H' : Hp} {p a : Addr} {ps : List (List Int)} {q : List Int} {as : List Addr} (h1 : H p = some (.lst (as.map V.ref))) (h2 : as.length = ps.length) (h3 : ∀ (k : Nat) (a : Addr) (q : List Int), as[k]? = some a → ps[k]? = some q → H a = some (.tup (q.map V.int)))
    (t : Tu H H') (e : H' p = some (.lst (as.map V.ref ++ [.ref a]))) (ha : H' a = some (.tup (q.map V.int))) : PosIn H' p (ps ++ [q]) := by
  refine ⟨as ++ [a], by rw [e, List.map_append]; rfl, by rw [List.length_append, List.length_append, h2]; rfl, fun k b r eb er => ?_⟩
  by_cases hk : k < as.length
  · rw [List.getElem?_append_left hk] at eb
    rw [List.getElem?_append_left (by omega)] at er
    exact t _ _ (h3 k b r eb er)
  · have h4 := (List.getElem?_eq_some_iff.mp eb).1
    rw [List.length_append, List.length_singleton] at h4
    have ek : k = as.length := by omega
    subst ek
    rw [List.getElem?_append_right (Nat.le_refl _), Nat.sub_self] at eb
    rw [List.getElem?_append_right (by omega), h2, Nat.sub_self] at er
    cases eb; cases er
    exact ha
theorem cutLo (vs : List V) (k : Nat) : cutV vs none (some (k : Int)) = vs.take k := by
  unfold cutV
  have e1 : HT.sIx vs.length 0 none = 0 := rfl
  rw [e1, HT.sIx_nat, List.drop_zero, Nat.sub_zero]
  by_cases h : k ≤ vs.length
  · rw [Nat.min_eq_left h]
  · rw [Nat.min_eq_right (by omega), List.take_of_length_le (Nat.le_refl _), List.take_of_length_le (by omega)]
theorem cutHi (vs : List V) (k : Nat) : cutV vs (some (k : Int)) none = vs.drop k := by
  unfold cutV
  have e1 : HT.sIx vs.length vs.length none = vs.length := rfl
  rw [e1, HT.sIx_nat]
  by_cases h : k ≤ vs.length
  · rw [Nat.min_eq_left h, List.take_of_length_le (by rw [List.length_drop]; exact Nat.le_refl _)]
  · rw [Nat.min_eq_right (by omega), List.drop_of_length_le (Nat.le_refl _), List.drop_of_length_le (by omega), List.take_nil]
theorem notLo {vs : List V} {k : Nat} (h : k < vs.length) : ¬ (HT.sIx vs.length 0 none = 0 ∧ HT.sIx vs.length vs.length (some (k : Int)) = vs.length) := fun z => by
  rw [HT.sIx_nat] at z
  have := z.2
  omega
theorem notHi {vs : List V} {k : Nat} (h : 1 ≤ k) (hv : 1 ≤ vs.length) : ¬ (HT.sIx vs.length 0 (some (k : Int)) = 0 ∧ HT.sIx vs.length vs.length none = vs.length) := fun z => by
  rw [HT.sIx_nat] at z
  have := z.1
  omega
theorem TmsIn.take {H : Hp} : ∀ {ts : List Tm} {vs : List V} (k : Nat), TmsIn H ts vs → TmsIn H (ts.take k) (vs.take k)
  | [], _, k, h => by cases (show _ = [] from h); cases k <;> rfl
  | _ :: _, _, 0, _ => rfl
  | t :: ts, _, k + 1, ⟨v, r, rfl, h, q⟩ => ⟨v, r.take k, rfl, h, TmsIn.take k q⟩
theorem TmsIn.drop {H : Hp} : ∀ {ts : List Tm} {vs : List V} (k : Nat), TmsIn H ts vs → TmsIn H (ts.drop k) (vs.drop k)
  | [], _, k, h => by cases (show _ = [] from h); cases k <;> rfl
  | _ :: _, _, 0, h => h
  | t :: ts, _, k + 1, ⟨v, r, rfl, h, q⟩ => TmsIn.drop k q
theorem set_cut {α : Type} {l : List α} {k : Nat} {x : α} (h : k < l.length) : l.set k x = l.take k ++ [x] ++ l.drop (k + 1) := by
  rw [List.set_eq_take_append_cons_drop, if_pos h, List.append_assoc]; rfl
/-- sizes and depths behind a replacement -/
theorem rep_dep (u : Tm) : ∀ (q : List Int) (t : Tm), IsPos q t → (rep u q t).dep ≤ max t.dep (q.length + u.dep) ∧ (rep u q t).sz ≤ t.sz + u.sz
  | [], t, _ => ⟨by show u.dep ≤ _; have := t.dep_pos; simp; omega, by show u.sz ≤ _; omega⟩
  | k :: q, .var n, h => h.elim
  | k :: q, .app f ts, ⟨h1, t, ht, hp⟩ => by
    have ih := rep_dep u q t hp
    have e : ts.getD (k - 1).toNat u = t := by rw [List.getD_eq_getElem?_getD, ht]; rfl
    have hk : (k - 1).toNat < ts.length := (List.getElem?_eq_some_iff.mp ht).1
    have hd : ∀ (l : List Tm) (j : Nat) (x : Tm) (M : Nat), Tm.deps l ≤ M → x.dep ≤ M → Tm.deps (l.set j x) ≤ M := by
      intro l
      induction l with
      | nil => intro j x M h _; exact h
      | cons a r ih =>
        intro j x M h hx
        have h : max a.dep (Tm.deps r) ≤ M := h
        cases j with
        | zero => show max x.dep (Tm.deps r) ≤ M; omega
        | succ j => show max a.dep (Tm.deps (r.set j x)) ≤ M; have := ih j x M (by omega) hx; omega
    have hs : ∀ (l : List Tm) (j : Nat) (x y : Tm), l[j]? = some y → Tm.szs (l.set j x) + y.sz = Tm.szs l + x.sz := by
      intro l
      induction l with
      | nil => intro j x y h; simp at h
      | cons a r ih =>
        intro j x y h
        cases j with
        | zero =>
          have h : a = y := by simpa using h
          subst h
          show x.sz + Tm.szs r + a.sz = a.sz + Tm.szs r + x.sz
          omega
        | succ j =>
          have := ih j x y (by simpa using h)
          show a.sz + Tm.szs (r.set j x) + y.sz = a.sz + Tm.szs r + x.sz
          omega
    have hm := Tm.dep_of_mem (List.mem_of_getElem? ht)
    refine ⟨?_, ?_⟩
    · show 1 + Tm.deps (ts.set (k - 1).toNat (rep u q (ts.getD (k - 1).toNat u))) ≤ max (1 + Tm.deps ts) (q.length + 1 + u.dep)
      rw [e]
      have := hd ts (k - 1).toNat (rep u q t) (max (Tm.deps ts) (q.length + u.dep)) (by omega) (by omega)
      omega
    · show 1 + Tm.szs (ts.set (k - 1).toNat (rep u q (ts.getD (k - 1).toNat u))) ≤ 1 + Tm.szs ts + u.sz
      rw [e]
      have := hs ts (k - 1).toNat (rep u q t) t ht
      omega
theorem at_cons_app {k : Int} {q : List Int} {f : Str} {ts : List Tm} : at? (k :: q) (.app f ts) = if 1 ≤ k then (ts[(k - 1).toNat]?).bind (at? q) else none := rfl
theorem at_app : ∀ (a b : List Int) (t : Tm), at? (a ++ b) t = (at? a t).bind (at? b)
  | [], _, _ => rfl
  | k :: a, b, .var _ => rfl
  | k :: a, b, .app f ts => by
    show at? (k :: (a ++ b)) (.app f ts) = _
    rw [at_cons_app, at_cons_app]
    by_cases h : 1 ≤ k
    · rw [if_pos h, if_pos h]
      cases ts[(k - 1).toNat]? with
      | none => rfl
      | some t => exact at_app a b t
    · rw [if_neg h, if_neg h]; rfl
theorem isPos_at : ∀ (q : List Int) (t : Tm), IsPos q t ↔ ∃ u, at? q t = some u
  | [], t => ⟨fun _ => ⟨t, rfl⟩, fun _ => trivial⟩
  | k :: q, .var _ => ⟨fun h => h.elim, fun ⟨_, h⟩ => nomatch h⟩
  | k :: q, .app f ts => by
    rw [at_cons_app]
    constructor
    · rintro ⟨h1, t, ht, hp⟩
      obtain ⟨u, hu⟩ := (isPos_at q t).mp hp
      exact ⟨u, by rw [if_pos h1, ht]; exact hu⟩
    · rintro ⟨u, hu⟩
      by_cases h : 1 ≤ k
      · rw [if_pos h] at hu
        cases e : ts[(k - 1).toNat]? with
        | none => rw [e] at hu; cases hu
        | some t => rw [e] at hu; exact ⟨h, t, e, (isPos_at q t).mpr ⟨u, hu⟩⟩
      · rw [if_neg h] at hu; cases hu
theorem isPos_app (a b : List Int) (t : Tm) : IsPos (a ++ b) t ↔ ∃ u, at? a t = some u ∧ IsPos b u := by
  rw [isPos_at, at_app]
  constructor
  · rintro ⟨w, hw⟩
    cases e : at? a t with
    | none => rw [e] at hw; cases hw
    | some u => rw [e] at hw; exact ⟨u, rfl, (isPos_at b u).mpr ⟨w, hw⟩⟩
  · rintro ⟨u, hu, hb⟩
    rw [hu]
    exact (isPos_at b u).mp hb
theorem isPos_take {q : List Int} {t : Tm} (h : IsPos q t) (i : Nat) : ∃ u, at? (q.take i) t = some u := by
  have := (isPos_app (q.take i) (q.drop i) t).mp (by rw [List.take_append_drop]; exact h)
  obtain ⟨u, hu, _⟩ := this
  exact ⟨u, hu⟩
/-- a child -/
theorem isPos_one {k : Int} {t : Tm} : IsPos [k] t ↔ ∃ f ts u, t = .app f ts ∧ 1 ≤ k ∧ ts[(k - 1).toNat]? = some u := by
  cases t with
  | var n => exact ⟨fun h => h.elim, fun ⟨_, _, _, h, _⟩ => nomatch h⟩
  | app f ts => exact ⟨fun ⟨h1, u, hu, _⟩ => ⟨f, ts, u, rfl, h1, hu⟩, fun ⟨_, _, u, e, h1, hu⟩ => by cases e; exact ⟨h1, u, hu, trivial⟩⟩
theorem at_step {q : List Int} {t w : Tm} {i : Nat} {k : Int} (hk : q[i]? = some k) (hw : at? (q.take i) t = some w) : at? (q.take (i + 1)) t = at? [k] w := by
  rw [list_take_succ hk, at_app, hw]; rfl
/-- put in, and take out -/
theorem at_rep (u : Tm) : ∀ (q : List Int) (t : Tm), IsPos q t → at? q (rep u q t) = some u
  | [], _, _ => rfl
  | k :: q, .var _, h => h.elim
  | k :: q, .app f ts, ⟨h1, t, ht, hp⟩ => by
    have hk := (List.getElem?_eq_some_iff.mp ht).1
    have e : ts.getD (k - 1).toNat u = t := by rw [List.getD_eq_getElem?_getD, ht]; rfl
    show at? (k :: q) (.app f (ts.set (k - 1).toNat (rep u q (ts.getD (k - 1).toNat u)))) = _
    rw [at_cons_app, if_pos h1, List.getElem?_set_self hk, e]
    exact at_rep u q t hp
theorem isPos_rep {u : Tm} {q : List Int} {t : Tm} (h : IsPos q t) : IsPos q (rep u q t) := (isPos_at q _).mpr ⟨u, at_rep u q t h⟩
theorem rep_back (u s : Tm) : ∀ (q : List Int) (t : Tm), at? q t = some s → rep s q (rep u q t) = t
  | [], t, h => (Option.some.inj h).symm
  | k :: q, .var _, h => nomatch h
  | k :: q, .app f ts, h => by
    rw [at_cons_app] at h
    by_cases h1 : 1 ≤ k
    · rw [if_pos h1] at h
      cases ht : ts[(k - 1).toNat]? with
      | none => rw [ht] at h; cases h
      | some t =>
        rw [ht] at h
        have hk := (List.getElem?_eq_some_iff.mp ht).1
        have e : ts.getD (k - 1).toNat u = t := by rw [List.getD_eq_getElem?_getD, ht]; rfl
        have ih := rep_back u s q t h
        show Tm.app f ((ts.set (k - 1).toNat (rep u q (ts.getD (k - 1).toNat u))).set (k - 1).toNat (rep s q ((ts.set (k - 1).toNat (rep u q (ts.getD (k - 1).toNat u))).getD (k - 1).toNat s))) = _
        have e2 : (ts.set (k - 1).toNat (rep u q (ts.getD (k - 1).toNat u))).getD (k - 1).toNat s = rep u q t := by
          rw [List.getD_eq_getElem?_getD, List.getElem?_set_self hk, e]; rfl
        rw [e2, ih, List.set_set, ← (List.getElem?_eq_some_iff.mp ht).2, List.set_getElem_self]
    · rw [if_neg h1] at h; cases h
theorem rep_step {u w c : Tm} {q : List Int} {k : Int} {i : Nat} {t : Tm} (hk : q[i]? = some k) (hw : at? (q.take i) t = some w) (hc : at? (q.take (i + 1)) t = some c) :
    ∃ f ts, w = .app f ts ∧ 1 ≤ k ∧ ts[(k - 1).toNat]? = some c ∧ rep u (q.drop i) w = .app f (ts.set (k - 1).toNat (rep u (q.drop (i + 1)) c)) := by
  rw [at_step hk hw] at hc
  obtain ⟨f, ts, c', rfl, h1, h2⟩ := isPos_one.mp ((isPos_at [k] w).mpr ⟨c, hc⟩)
  have hi := (List.getElem?_eq_some_iff.mp hk)
  rw [at_cons_app, if_pos h1, h2] at hc
  have hc : some c' = some c := hc
  cases hc
  refine ⟨f, ts, rfl, h1, h2, ?_⟩
  have e : q.drop i = k :: q.drop (i + 1) := by
    obtain ⟨hi, rfl⟩ := hi
    exact (List.drop_eq_getElem_cons hi)
  rw [e]
  show Tm.app f (ts.set (k - 1).toNat (rep u (q.drop (i + 1)) (ts.getD (k - 1).toNat u))) = _
  rw [List.getD_eq_getElem?_getD, h2]; rfl
theorem at_sz : ∀ (q : List Int) (t u : Tm), at? q t = some u → u.sz ≤ t.sz ∧ u.dep ≤ t.dep
  | [], t, u, h => by cases (show some t = some u from h); exact ⟨Nat.le_refl _, Nat.le_refl _⟩
  | k :: q, .var _, _, h => nomatch h
  | k :: q, .app f ts, u, h => by
    rw [at_cons_app] at h
    by_cases h1 : 1 ≤ k
    · rw [if_pos h1] at h
      cases ht : ts[(k - 1).toNat]? with
      | none => rw [ht] at h; cases h
      | some t =>
        rw [ht] at h
        have ih := at_sz q t u h
        have hm := List.mem_of_getElem? ht
        have h2 := Tm.dep_of_mem hm
        have h3 := Tm.sz_arg hm
        exact ⟨by show u.sz ≤ 1 + Tm.szs ts; omega, by show u.dep ≤ 1 + Tm.deps ts; omega⟩
    · rw [if_neg h1] at h; cases h
/-- pairs of a position and a term, on a stack -/
def PairIn (H : Hp) (v : V) (x : List Int × Tm) : Prop := ∃ (b c : Addr) (u : V), v = .ref b ∧ H b = some (.tup [.ref c, u]) ∧ H c = some (.tup (x.1.map V.int)) ∧ TmIn H x.2 u
def StkIn (H : Hp) (ws : List V) (S : List (List Int × Tm)) : Prop := ws.length = S.length ∧ ∀ (k : Nat) (v : V) (x : List Int × Tm), ws[k]? = some v → S[k]? = some x → PairIn H v x
theorem PairIn.tu {H H' : Hp} {v : V} {x : List Int × Tm} (h : PairIn H v x) (t : Tu H H') : PairIn H' v x := by
  obtain ⟨b, c, u, rfl, h1, h2, h3⟩ := h
  exact ⟨b, c, u, rfl, t _ _ h1, t _ _ h2, h3.tu t⟩
theorem StkIn.tu {H H' : Hp} {ws : List V} {S : List (List Int × Tm)} (h : StkIn H ws S) (t : Tu H H') : StkIn H' ws S := ⟨h.1, fun k v x e1 e2 => (h.2 k v x e1 e2).tu t⟩
theorem StkIn.snoc {H : Hp} {ws : List V} {S : List (List Int × Tm)} (h : StkIn H ws S) {v : V} {x : List Int × Tm} (hv : PairIn H v x) : StkIn H (ws ++ [v]) (S ++ [x]) := by
  refine ⟨by rw [List.length_append, List.length_append, h.1]; rfl, fun k u y e1 e2 => ?_⟩
  by_cases hk : k < ws.length
  · rw [List.getElem?_append_left hk] at e1
    rw [List.getElem?_append_left (by have := h.1; omega)] at e2
    exact h.2 k u y e1 e2
  · have h4 := (List.getElem?_eq_some_iff.mp e1).1
    rw [List.length_append, List.length_singleton] at h4
    have ek : k = ws.length := by omega
    subst ek
    rw [List.getElem?_append_right (Nat.le_refl _), Nat.sub_self] at e1
    rw [List.getElem?_append_right (by have := h.1; omega), h.1, Nat.sub_self] at e2
    cases e1; cases e2
    exact hv
theorem StkIn.pop {H : Hp} {ws : List V} {S : List (List Int × Tm)} (h : StkIn H ws S) (n : ws ≠ []) : ∃ v S' x, ws[ws.length - 1]? = some v ∧ S = S' ++ [x] ∧ PairIn H v x ∧ StkIn H ws.dropLast S' := by
  have l := h.1
  have hw : 0 < ws.length := List.length_pos_iff.mpr n
  have hS : S ≠ [] := fun z => by rw [z] at l; simp at l; exact n l
  obtain ⟨S', x, rfl⟩ : ∃ S' x, S = S' ++ [x] := ⟨S.dropLast, S.getLast hS, (List.dropLast_concat_getLast hS).symm⟩
  rw [List.length_append, List.length_singleton] at l
  have hl : ws.length - 1 < ws.length := by omega
  have e1 := List.getElem?_eq_getElem hl
  refine ⟨_, S', x, e1, rfl, h.2 _ _ x e1 (by rw [List.getElem?_append_right (by omega), show ws.length - 1 - S'.length = 0 by omega]; rfl), by rw [List.length_dropLast]; omega, fun k v y g1 g2 => ?_⟩
  rw [List.getElem?_dropLast] at g1
  by_cases hk : k < ws.length - 1
  · rw [if_pos hk] at g1
    exact h.2 k v y g1 (by rw [List.getElem?_append_left (by omega)]; exact g2)
  · rw [if_neg hk] at g1; cases g1
def posOf : List (List Int × Tm) → List (List Int)
  | [] => []
  | x :: r => (poss x.2).map (fun z => x.1 ++ z) ++ posOf r
def kids (q : List Int) : Nat → List Tm → List (List Int × Tm)
  | _, [] => []
  | k, t :: ts => (q ++ [(k : Int)], t) :: kids q (k + 1) ts
def szOf (S : List (List Int × Tm)) : Nat := (S.map fun x => x.2.sz).sum
theorem posOf_app (a b : List (List Int × Tm)) : posOf (a ++ b) = posOf a ++ posOf b := by
  induction a with
  | nil => rfl
  | cons x a ih => show (poss x.2).map (fun z => x.1 ++ z) ++ posOf (a ++ b) = _; rw [ih, ← List.append_assoc]; rfl
theorem posOf_len (a : List (List Int × Tm)) : (posOf a).length = szOf a := by
  induction a with
  | nil => rfl
  | cons x a ih => show ((poss x.2).map (fun z => x.1 ++ z) ++ posOf a).length = x.2.sz + szOf a; rw [List.length_append, List.length_map, poss_len, ih]
theorem szOf_app (a b : List (List Int × Tm)) : szOf (a ++ b) = szOf a + szOf b := by unfold szOf; rw [List.map_append, List.sum_append]
theorem szOf_rev (a : List (List Int × Tm)) : szOf a.reverse = szOf a := by
  induction a with
  | nil => rfl
  | cons x a ih =>
    rw [List.reverse_cons, szOf_app, ih]
    show szOf a + (x.2.sz + 0) = x.2.sz + szOf a
    omega
theorem len_szOf (a : List (List Int × Tm)) : a.length ≤ szOf a := by
  induction a with
  | nil => exact Nat.le_refl _
  | cons x a ih => have := x.2.sz_pos; show a.length + 1 ≤ x.2.sz + szOf a; omega
theorem posOf_kids (q : List Int) : ∀ (ts : List Tm) (k : Nat), posOf (kids q k ts) = (posss k ts).map (fun z => q ++ z)
  | [], _ => rfl
  | t :: ts, k => by
    show (poss t).map (fun z => (q ++ [(k : Int)]) ++ z) ++ posOf (kids q (k + 1) ts) = ((poss t).map (fun z => (k : Int) :: z) ++ posss (k + 1) ts).map (fun z => q ++ z)
    rw [posOf_kids q ts, List.map_append, List.map_map]
    congr 1
    refine List.map_congr_left fun z _ => ?_
    show (q ++ [(k : Int)]) ++ z = q ++ ((k : Int) :: z)
    rw [List.append_assoc]; rfl
theorem kids_len (q : List Int) : ∀ (ts : List Tm) (k : Nat), (kids q k ts).length = ts.length
  | [], _ => rfl
  | _ :: ts, k => congrArg (· + 1) (kids_len q ts (k + 1))
theorem kids_get (q : List Int) : ∀ (ts : List Tm) (k i : Nat) (t : Tm), ts[i]? = some t → (kids q k ts)[i]? = some (q ++ [((k + i : Nat) : Int)], t)
  | [], _, _, _, h => by simp at h
  | _ :: _, k, 0, _, h => by cases h; rfl
  | _ :: ts, k, i + 1, t, h => by
    have := kids_get q ts (k + 1) i t h
    rw [show k + 1 + i = k + (i + 1) by omega] at this
    exact this
theorem kids_sz (q : List Int) : ∀ (ts : List Tm) (k : Nat), szOf (kids q k ts) = Tm.szs ts
  | [], _ => rfl
  | t :: ts, k => by show t.sz + szOf (kids q (k + 1) ts) = t.sz + Tm.szs ts; rw [kids_sz q ts]
theorem rep_wf {fs : List Str} {B : Int} {u : Tm} (wu : u.wf fs B) : ∀ (q : List Int) (t : Tm), t.wf fs B → IsPos q t → (rep u q t).wf fs B
  | [], _, _, _ => wu
  | _ :: _, .var _, _, h => h.elim
  | k :: q, .app f ts, w, ⟨h1, t, ht, hp⟩ => by
    obtain ⟨⟨i, i1, i2⟩, w⟩ := (show (∃ k, fs[k]? = some f ∧ ts.length = ar k) ∧ Tm.wfs fs B ts from w)
    have e : ts.getD (k - 1).toNat u = t := by rw [List.getD_eq_getElem?_getD, ht]; rfl
    have ih := rep_wf wu q t (Tm.wf_of_mem w (List.mem_of_getElem? ht)) hp
    show (∃ k', fs[k']? = some f ∧ (ts.set (k - 1).toNat (rep u q (ts.getD (k - 1).toNat u))).length = ar k') ∧ Tm.wfs fs B (ts.set (k - 1).toNat (rep u q (ts.getD (k - 1).toNat u)))
    rw [e]
    refine ⟨⟨i, i1, by rw [List.length_set]; exact i2⟩, Tm.wfs_of fun x hx => ?_⟩
    rcases List.mem_or_eq_of_mem_set hx with h | h
    · exact Tm.wf_of_mem w h
    · rw [h]; exact ih
end J

/-! ### errors of the program's own classes -/
namespace J
open PySem L2 PyProof.Rows
def veB : List Value := [.type "ValueError", .type "Exception", .type "BaseException", .type "object"]
/-- an error class without an __init__ of its own -/
structure ErrC (K : PySem.W.Frag) (mg : Str → Option Value) (x : Str) (C : Addr) : Prop where
  gC : mg x = some (.ref C)
  kC : PySem.W.keepIn K (.ref C) = true
  xC : PySem.W.excIn K C [.type "ValueError", .type "Exception", .type "BaseException", .type "object"] "ValueError.__new__" = true
  bC : PySem.W.subIn K (.ref C) (.type "BaseException") = some true
  tC : PySem.W.typeIn K (.ref C) = some (.type "type")
  eC : PySem.W.exmOne K (.ref C) (.ref C) = some true
  dC : ExcC K C
theorem err_mk {K : PySem.W.Frag} {h : Heap} {mg : Str → Option Value} {x : Str} {C : Addr} (X : K.In h) (G : h.Ns mainGlobals mg)
    (a : PySem.W.nsIn K mainGlobals x = some (some (.ref C))) (k : PySem.W.keepIn K (.ref C) = true) (e : PySem.W.excIn K C [.type "ValueError", .type "Exception", .type "BaseException", .type "object"] "ValueError.__new__" = true)
    (b : PySem.W.subIn K (.ref C) (.type "BaseException") = some true) (t : PySem.W.typeIn K (.ref C) = some (.type "type")) (s : PySem.W.subIn K (.ref C) (.ref C) = some true)
    (hg : PySem.W.findIn K (.ref C) "__getattribute__" = some (some (.builtin "BaseException.__getattribute__"))) (hk : PySem.W.findIn K (.ref C) "__getattr__" = some none) (hd : PySem.W.hasDictIn K C = true)
    (ha : PySem.W.findIn K (.ref C) "__class__" = some (some (.builtin "object.__class__"))) (hn : PySem.W.specialIn K (.builtin "object.__class__") "__get__" = some (some (.builtin "getset_descriptor.__get__")))
    (ht : PySem.W.takesIn K (.builtin "object.__class__") = some true) (hm : PySem.W.mroIn K C (.type "object") = some true) : ErrC K mg x C :=
  ⟨PySem.W.mg_of X G a, k, e, b, t, PySem.W.exm_ref b hd t s, ⟨hg, hk, b, hd, ha, hn, ht, hm⟩⟩
section
variable {X : Cx} {C : Addr} {bmB : List Value} {B newId initId : String}
/-- X() -/
theorem pmk_own0 {x : Str} {p pos : Pos} (F : ExcBaseFacts B newId initId bmB) (q : PySem.W.excIn X.K C bmB newId = true) (gC : X.mg x = some (.ref C)) (kC : PySem.W.keepIn X.K (.ref C) = true) (r : Raises X (.ref C)) (hg : Gl X x)
    (hdb : (x == ("__debug__" : Str)) = false := by decide) : PMk X (.Call (.Name x p) [] [] pos) (fun _ H Q => Q (.ref C) none H) := by
  intro pins s σ H Q I h
  refine wpAny_Call_Name_kw (ld_glob I hg gC ?_ hdb)
  refine PySem.W.callWith_K0 I.kIn kC ?_
  show wpAny _ _ (call (.ref C) []) _ _ _
  obtain ⟨bm, N, nm, qn, bs, hdct, sn, sub, ab, col, dd, k0, k1, k2, k3, k5, mN, hC, hN, hni, T⟩ := exc_obj I.kIn q
  refine wpAny_call_exc_subT F T hC hN hni (fun h' e hm => ?_) (by show 0 ≤ sizeLine; omega)
  exact mk_of I hm r h (I.hok.gone hm.new)
theorem pss_assume {p : Prop} {sts : List Stmt} {t : TS} (h : p → PSs X sts t) : PSs X sts (fun D σ H => p ∧ t D σ H) := ⟨fun pins s σ H D I ⟨hp, q⟩ => (h hp).run pins s σ H D I q⟩
/-- a call that lets nothing out -/
theorem no_raise {X : Cx} (σ : L2.St) : PassesAt (L2.CX X.prog X.w) X σ (fun _ _ _ => False) := fun _ _ _ _ _ _ c => by
  obtain ⟨_, _, _, _, _, _, _, _, _, _, _, _, h⟩ := c
  exact h.elim
end
end J

/-! ### range(i, j, -1) in a for -/
namespace J
open PySem L2
theorem down_ok {n : Nat} (h : n ≤ 1000000) : RgC ((n : Int) - 1) (-1) (-1) n := by
  have := RgC.neg (i := (n : Int) - 1) (j := -1) (by omega) (by omega) (by decide) (by decide)
  have e : ((n : Int) - 1 - (-1)).toNat = n := by omega
  rw [e] at this
  exact this
theorem down0_ok {n : Nat} (h : n ≤ 1000000) : RgC (n : Int) 0 (-1) n := by
  have := RgC.neg (i := (n : Int)) (j := 0) (by omega) (by omega) (by decide) (by decide)
  have e : ((n : Int) - 0).toNat = n := by omega
  rw [e] at this
  exact this
theorem catA {K : PySem.W.Frag} {H : Hp} {a b : Addr} {xs ys : List V} {Q : VK} (ha : H a = some (.tup xs)) (hb : H b = some (.tup ys)) (hy : ys ≠ []) (hl : xs.length + ys.length ≤ sizeLine) (k : ∀ p H', Same H H' → H' p = some (.tup (xs ++ ys)) → Q (.ref p) H') : rCatA K (.ref a) (.ref b) H Q := by
  refine ⟨a, b, xs, ys, rfl, rfl, SqT.of ha, SqT.of hb, hl, fun z => ?_, fun _ z => absurd z hy, fun _ _ p hp => ?_⟩
  · refine k b H (Same.refl _) ?_
    rw [z]; exact hb
  · exact k p _ (al_same hp rfl) upd_same
/-- the slots, written out anew -/
theorem at_state {t : TS} {D : Ends} {σ σ' : L2.St} {H : Hp} (e : σ = σ') (h : t D σ' H) : t D σ H := e ▸ h
theorem catB {K : PySem.W.Frag} {H : Hp} {a b : Addr} {xs ys : List V} {Q : VK} (ha : H a = some (.tup xs)) (hb : H b = some (.tup ys)) (hl : xs.length + ys.length ≤ sizeLine) (k : ∀ p H', Same H H' → H' p = some (.tup (xs ++ ys)) → Q (.ref p) H') : rCatA K (.ref a) (.ref b) H Q := by
  refine ⟨a, b, xs, ys, rfl, rfl, SqT.of ha, SqT.of hb, hl, fun z => ?_, fun _ z => ?_, fun _ _ p hp => ?_⟩
  · refine k b H (Same.refl _) ?_
    rw [z]; exact hb
  · refine k a H (Same.refl _) ?_
    rw [z, List.append_nil]; exact ha
  · exact k p _ (al_same hp rfl) upd_same
end J

namespace Lw
open PySem L2 PyProof.Rows J
local macro_rules | `(tactic| walk_at "hp") => `(tactic| first | assumption | exact upd_same)
local macro_rules | `(tactic| walk_at "side") => `(tactic| first
  | (show (0 : Int) < _; decide)
  | exact Or.inr ⟨by decide, by decide⟩
  | exact Or.inl ⟨by decide, by decide⟩
  | exact ⟨by decide, by decide⟩
  | exact ⟨by decide, by decide, by decide⟩
  | (show (_ : Int) ≠ 0; omega)
  | (show _ < _; omega)
  | exact ⟨by omega, by omega⟩
  | exact Or.inl ⟨by omega, by omega⟩
  | exact Or.inr ⟨by omega, by omega⟩)
local macro_rules | `(tactic| walk_at "rd1") => `(tactic| first
  | refine ⟨_, rfl, ?_⟩
  | refine ⟨_, _, rfl, rfl, by walk_at "side", ?_⟩
  | refine ⟨_, _, rfl, rfl, ?_⟩
  | refine .inl ⟨_, rfl, ?_⟩
  | refine ⟨_, _, _, _, rfl, rfl, SqL.of (by walk_at "hp"), by first | assumption | exact at_zero | rfl, ?_⟩
  | refine ⟨_, _, _, _, rfl, rfl, SqT.of (by walk_at "hp"), by first | assumption | exact at_zero | rfl, ?_⟩
  | refine ⟨_, _, rfl, .inl (SqL.of (by walk_at "hp")), ?_⟩
  | refine ⟨_, _, rfl, .inr (SqT.of (by walk_at "hp")), ?_⟩
  | refine ⟨_, _, _, _, rfl, rfl, by walk_at "hp", rfl, ?_⟩
  | refine ⟨rfl, ?_⟩)
local macro_rules | `(tactic| walk_at "rd") => `(tactic| repeat walk_at "rd1")
local macro_rules | `(tactic| walk_at "isi") => `(tactic| first
  | refine ⟨_, _, _, _, true, rfl, .ty _, .base (.int _), kit_ty (by decide +kernel), ?_⟩
  | refine ⟨_, _, _, _, false, rfl, .ty _, .base (.int _), kit_ty (by decide +kernel), ?_⟩
  | refine ⟨_, _, _, _, true, rfl, .ty _, .base (.tup (by walk_at "hp")), kit_ty (by decide +kernel), ?_⟩
  | refine ⟨_, _, _, _, false, rfl, .ty _, .base (.tup (by walk_at "hp")), kit_ty (by decide +kernel), ?_⟩
  | refine ⟨_, _, _, _, true, rfl, .ty _, .base (.lst (by walk_at "hp")), kit_ty (by decide +kernel), ?_⟩
  | refine ⟨_, _, _, _, false, rfl, .ty _, .base (.lst (by walk_at "hp")), kit_ty (by decide +kernel), ?_⟩
  | refine ⟨_, _, _, _, true, rfl, .ty _, .base (.dK (by walk_at "hp")), kit_ty (by decide +kernel), ?_⟩
  | refine ⟨_, _, _, _, false, rfl, .ty _, .base (.dK (by walk_at "hp")), kit_ty (by decide +kernel), ?_⟩
  | refine ⟨_, _, _, _, true, rfl, .ty _, .base (.str _), kit_ty (by decide +kernel), ?_⟩
  | refine ⟨_, _, _, _, false, rfl, .ty _, .base (.str _), kit_ty (by decide +kernel), ?_⟩
  | refine ⟨_, _, _, _, true, rfl, .ty _, .base (.bl _), kit_ty (by decide +kernel), ?_⟩
  | refine ⟨_, _, _, _, false, rfl, .ty _, .base (.bl _), kit_ty (by decide +kernel), ?_⟩
  | refine ⟨_, _, _, _, true, rfl, .ty _, .base (.non), kit_ty (by decide +kernel), ?_⟩
  | refine ⟨_, _, _, _, false, rfl, .ty _, .base (.non), kit_ty (by decide +kernel), ?_⟩)
local macro_rules | `(tactic| walk_at "sl1") => `(tactic| (refine ⟨_, _, rfl, SqT.of (by walk_at "hp"), sl1c _ _, ?_⟩; rw [cut1]))
local macro_rules | `(tactic| walk_at "ri") => `(tactic| repeat (first | walk_at "rd1" | walk_at "isi"))

def topS (i : Nat) : Stmt := PySem.Challenge.pw_joinedends_k04_replace.main.body.getD i (.Pass ⟨0, 0, 0, 0⟩)
abbrev s_u_law_state : Stmt := topS 9
theorem sc_u_law_state : FnScope ["script"] ["script"] (defScope s_u_law_state) := ⟨rfl, rfl, rfl, by decide +kernel, rfl, by decide +kernel, by decide +kernel⟩
abbrev s_u_law_mix : Stmt := topS 7
theorem sc_u_law_mix : FnScope ["cell", "number"] ["cell"] (defScope s_u_law_mix) := ⟨rfl, rfl, rfl, by decide +kernel, rfl, by decide +kernel, by decide +kernel⟩
abbrev s_u_law_number : Stmt := topS 8
theorem sc_u_law_number : FnScope ["cell", "first"] ["cell"] (defScope s_u_law_number) := ⟨rfl, rfl, rfl, by decide +kernel, rfl, by decide +kernel, by decide +kernel⟩
abbrev s_u_law_draw : Stmt := topS 10
theorem sc_u_law_draw : FnScope ["state", "many", "value"] ["state", "many"] (defScope s_u_law_draw) := ⟨rfl, rfl, rfl, by decide +kernel, rfl, by decide +kernel, by decide +kernel⟩
abbrev s_u_law_word : Stmt := topS 11
theorem sc_u_law_word : FnScope ["state", "many", "letters", "k"] ["state", "many"] (defScope s_u_law_word) := ⟨rfl, rfl, rfl, by decide +kernel, rfl, by decide +kernel, by decide +kernel⟩
abbrev s_u_law_names : Stmt := topS 12
theorem sc_u_law_names : FnScope ["state", "count", "letters", "before", "behind", "first", "k"] ["state", "count"] (defScope s_u_law_names) := ⟨rfl, rfl, rfl, by decide +kernel, rfl, by decide +kernel, by decide +kernel⟩
abbrev s_u_law_operations : Stmt := topS 13
theorem sc_u_law_operations : FnScope ["state", "names", "arities", "k"] ["state"] (defScope s_u_law_operations) := ⟨rfl, rfl, rfl, by decide +kernel, rfl, by decide +kernel, by decide +kernel⟩
abbrev s_u_law_leaf : Stmt := topS 14
theorem sc_u_law_leaf : FnScope ["state", "operations", "count"] ["state", "operations", "count"] (defScope s_u_law_leaf) := ⟨rfl, rfl, rfl, by decide +kernel, rfl, by decide +kernel, by decide +kernel⟩
abbrev s_u_law_term : Stmt := topS 15
theorem sc_u_law_term : FnScope ["state", "operations", "count", "height", "name", "arity", "term", "k"] ["state", "operations", "count", "height"] (defScope s_u_law_term) := ⟨rfl, rfl, rfl, by decide +kernel, rfl, by decide +kernel, by decide +kernel⟩
abbrev s_u_law_tall : Stmt := topS 16
theorem sc_u_law_tall : FnScope ["state", "operations", "count", "term", "k"] ["state", "operations", "count"] (defScope s_u_law_tall) := ⟨rfl, rfl, rfl, by decide +kernel, rfl, by decide +kernel, by decide +kernel⟩
abbrev s_u_law_positions : Stmt := topS 19
theorem sc_u_law_positions : FnScope ["term", "found", "k", "inner"] ["term"] (defScope s_u_law_positions) := ⟨rfl, rfl, rfl, by decide +kernel, rfl, by decide +kernel, by decide +kernel⟩
abbrev s_u_law_replace : Stmt := topS 18
theorem sc_u_law_replace : FnScope ["term", "position", "new", "k"] ["term", "position", "new"] (defScope s_u_law_replace) := ⟨rfl, rfl, rfl, by decide +kernel, rfl, by decide +kernel, by decide +kernel⟩
abbrev s_u_law_subterm : Stmt := topS 17
theorem sc_u_law_subterm : FnScope ["term", "position", "k"] ["term", "position"] (defScope s_u_law_subterm) := ⟨rfl, rfl, rfl, by decide +kernel, rfl, by decide +kernel, by decide +kernel⟩
abbrev s_u_spine : Stmt := topS 4
theorem sc_u_spine : FnScope ["term", "position", "part", "spine", "at"] ["term", "position"] (defScope s_u_spine) := ⟨rfl, rfl, rfl, by decide +kernel, rfl, by decide +kernel, by decide +kernel⟩
abbrev s_replace : Stmt := topS 5
theorem sc_replace : FnScope ["term", "position", "new", "spine", "result", "level", "whole", "at"] ["term", "position", "new"] (defScope s_replace) := ⟨rfl, rfl, rfl, by decide +kernel, rfl, by decide +kernel, by decide +kernel⟩
abbrev s_u_law_refused : Stmt := topS 23
theorem sc_u_law_refused : FnScope ["term", "position", "new"] ["term", "position", "new"] (defScope s_u_law_refused) := ⟨rfl, rfl, rfl, by decide +kernel, rfl, by decide +kernel, by decide +kernel⟩
abbrev s_u_law_same : Stmt := topS 22
theorem sc_u_law_same : FnScope ["first", "second", "k"] ["first", "second"] (defScope s_u_law_same) := ⟨rfl, rfl, rfl, by decide +kernel, rfl, by decide +kernel, by decide +kernel⟩
abbrev s_law : Stmt := topS 24
theorem sc_law : FnScope ["script", "state", "operations", "term", "places", "position", "new", "due", "many", "found"] ["script"] (defScope s_law) := ⟨rfl, rfl, rfl, by decide +kernel, rfl, by decide +kernel, by decide +kernel⟩
structure Ad where
  a_u_law_state : Addr
  d_u_law_state : FuncData
  a_u_law_mix : Addr
  d_u_law_mix : FuncData
  a_u_law_number : Addr
  d_u_law_number : FuncData
  a_u_law_draw : Addr
  d_u_law_draw : FuncData
  a_u_law_word : Addr
  d_u_law_word : FuncData
  a_u_law_names : Addr
  d_u_law_names : FuncData
  a_u_law_operations : Addr
  d_u_law_operations : FuncData
  a_u_law_leaf : Addr
  d_u_law_leaf : FuncData
  a_u_law_term : Addr
  d_u_law_term : FuncData
  a_u_law_tall : Addr
  d_u_law_tall : FuncData
  a_u_law_positions : Addr
  d_u_law_positions : FuncData
  a_u_law_replace : Addr
  d_u_law_replace : FuncData
  a_u_law_subterm : Addr
  d_u_law_subterm : FuncData
  a_u_spine : Addr
  d_u_spine : FuncData
  a_replace : Addr
  d_replace : FuncData
  a_u_law_refused : Addr
  d_u_law_refused : FuncData
  a_u_law_same : Addr
  d_u_law_same : FuncData
  a_law : Addr
  d_law : FuncData
  c_NoPosition : Addr
structure Tx (K : PySem.W.Frag) (mg : Str → Option Value) (A : Ad) : Prop where
  F_u_law_state : Fun K "_law_state" "_law_state" s_u_law_state A.a_u_law_state A.d_u_law_state
  b_u_law_state : Binds K A.d_u_law_state ["script"] []
  m_u_law_state : mg "_law_state" = some (.ref A.a_u_law_state)
  F_u_law_mix : Fun K "_law_mix" "_law_mix" s_u_law_mix A.a_u_law_mix A.d_u_law_mix
  b_u_law_mix : Binds K A.d_u_law_mix ["cell"] []
  m_u_law_mix : mg "_law_mix" = some (.ref A.a_u_law_mix)
  F_u_law_number : Fun K "_law_number" "_law_number" s_u_law_number A.a_u_law_number A.d_u_law_number
  b_u_law_number : Binds K A.d_u_law_number ["cell"] []
  m_u_law_number : mg "_law_number" = some (.ref A.a_u_law_number)
  F_u_law_draw : Fun K "_law_draw" "_law_draw" s_u_law_draw A.a_u_law_draw A.d_u_law_draw
  b_u_law_draw : Binds K A.d_u_law_draw ["state", "many"] []
  m_u_law_draw : mg "_law_draw" = some (.ref A.a_u_law_draw)
  F_u_law_word : Fun K "_law_word" "_law_word" s_u_law_word A.a_u_law_word A.d_u_law_word
  b_u_law_word : Binds K A.d_u_law_word ["state", "many"] []
  m_u_law_word : mg "_law_word" = some (.ref A.a_u_law_word)
  F_u_law_names : Fun K "_law_names" "_law_names" s_u_law_names A.a_u_law_names A.d_u_law_names
  b_u_law_names : Binds K A.d_u_law_names ["state", "count"] []
  m_u_law_names : mg "_law_names" = some (.ref A.a_u_law_names)
  F_u_law_operations : Fun K "_law_operations" "_law_operations" s_u_law_operations A.a_u_law_operations A.d_u_law_operations
  b_u_law_operations : Binds K A.d_u_law_operations ["state"] []
  m_u_law_operations : mg "_law_operations" = some (.ref A.a_u_law_operations)
  F_u_law_leaf : Fun K "_law_leaf" "_law_leaf" s_u_law_leaf A.a_u_law_leaf A.d_u_law_leaf
  b_u_law_leaf : Binds K A.d_u_law_leaf ["state", "operations", "count"] []
  m_u_law_leaf : mg "_law_leaf" = some (.ref A.a_u_law_leaf)
  F_u_law_term : Fun K "_law_term" "_law_term" s_u_law_term A.a_u_law_term A.d_u_law_term
  b_u_law_term : Binds K A.d_u_law_term ["state", "operations", "count", "height"] []
  m_u_law_term : mg "_law_term" = some (.ref A.a_u_law_term)
  F_u_law_tall : Fun K "_law_tall" "_law_tall" s_u_law_tall A.a_u_law_tall A.d_u_law_tall
  b_u_law_tall : Binds K A.d_u_law_tall ["state", "operations", "count"] []
  m_u_law_tall : mg "_law_tall" = some (.ref A.a_u_law_tall)
  F_u_law_positions : Fun K "_law_positions" "_law_positions" s_u_law_positions A.a_u_law_positions A.d_u_law_positions
  b_u_law_positions : Binds K A.d_u_law_positions ["term"] []
  m_u_law_positions : mg "_law_positions" = some (.ref A.a_u_law_positions)
  F_u_law_replace : Fun K "_law_replace" "_law_replace" s_u_law_replace A.a_u_law_replace A.d_u_law_replace
  b_u_law_replace : Binds K A.d_u_law_replace ["term", "position", "new"] []
  m_u_law_replace : mg "_law_replace" = some (.ref A.a_u_law_replace)
  F_u_law_subterm : Fun K "_law_subterm" "_law_subterm" s_u_law_subterm A.a_u_law_subterm A.d_u_law_subterm
  b_u_law_subterm : Binds K A.d_u_law_subterm ["term", "position"] []
  m_u_law_subterm : mg "_law_subterm" = some (.ref A.a_u_law_subterm)
  F_u_spine : Fun K "_spine" "_spine" s_u_spine A.a_u_spine A.d_u_spine
  b_u_spine : Binds K A.d_u_spine ["term", "position"] []
  m_u_spine : mg "_spine" = some (.ref A.a_u_spine)
  F_replace : Fun K "replace" "replace" s_replace A.a_replace A.d_replace
  b_replace : Binds K A.d_replace ["term", "position", "new"] []
  m_replace : mg "replace" = some (.ref A.a_replace)
  F_u_law_refused : Fun K "_law_refused" "_law_refused" s_u_law_refused A.a_u_law_refused A.d_u_law_refused
  b_u_law_refused : Binds K A.d_u_law_refused ["term", "position", "new"] []
  m_u_law_refused : mg "_law_refused" = some (.ref A.a_u_law_refused)
  F_u_law_same : Fun K "_law_same" "_law_same" s_u_law_same A.a_u_law_same A.d_u_law_same
  b_u_law_same : Binds K A.d_u_law_same ["first", "second"] []
  m_u_law_same : mg "_law_same" = some (.ref A.a_u_law_same)
  F_law : Fun K "law" "law" s_law A.a_law A.d_law
  b_law : Binds K A.d_law ["script"] []
  m_law : mg "law" = some (.ref A.a_law)
  n_bool : mg "bool" = none
  n_int : mg "int" = none
  n_isinstance : mg "isinstance" = none
  n_len : mg "len" = none
  n_list : mg "list" = none
  n_range : mg "range" = none
  n_str : mg "str" = none
  n_tuple : mg "tuple" = none
  E_NoPosition : ErrC K mg "NoPosition" A.c_NoPosition
section
variable {P : Program} {w : World} {K : PySem.W.Frag} {mg : Str → Option Value} {base : Heap} {A : Ad}
/-! _law_state -/
def sp_u_law_state (K : PySem.W.Frag) : Sp := fun vs H Q _ => ∃ (a : Addr) (ns : List Int), vs = [.ref a] ∧ SqL K H a (ns.map V.int) ∧ ns.length ≤ 63 ∧ ∀ s l H', Same H H' → H s = none → H l = none → St H' s l → Q (.ref s) H'
theorem ok_u_law_state (T : Tx K mg A) : FnOk P w K mg base CX0 1 A.a_u_law_state A.d_u_law_state ["script"] (sp_u_law_state K) := by
  refine T.F_u_law_state.ok sc_u_law_state (fun vs H Q E h => ?_) (fun cdv Ar outer s0 H vs Q E hr h => ?_)
  · obtain ⟨a, ns, rfl, _⟩ := h; rfl
  obtain ⟨a, ns, rfl, hS, h63, q⟩ := h
  refine ⟨_, (pss_one (ps_ret (pe_lst (pa_cons pe_int (pa_cons (pe_callTy (r := rListS K) j_list (by rfl) T.n_list boot_list (pa_cons (pv 0) pa_nil)) (pa_cons pe_int (pa_cons (pe_op op_add pe_int (pe_callB (r := rLenS K) j_len (by rfl) T.n_len PySem.boot_len (pa_cons (pv 0) pa_nil))) pa_nil))))))), ?_⟩
  walk_at "rd"
  refine ⟨a, _, rfl, .inl hS, ?_⟩
  first | intro l n1 | refine fun l n1 => ?_
  generalize ehn : upd H l _ = H1
  have s1 := J.al_same n1 ehn
  have h1 := J.al_at ehn
  clear ehn
  walk_at "rd"
  refine ⟨a, _, rfl, .inl (s1.seq hS), ?_⟩
  walk_at "rd"
  refine ⟨by show 4 ≤ sizeLine; decide, ?_⟩
  first | intro s n2 | refine fun s n2 => ?_
  generalize ehn : upd H1 s _ = H2
  have s2 := J.al_same n2 ehn
  have h2 := J.al_at ehn
  clear ehn
  refine q s l H2 (s1.trans s2) (s1.free n2) n1 ⟨0, 0, _, ns, h2, s2 _ _ h1, Int.le_refl _, Int.natCast_nonneg _, Int.le_refl _, ?_, ?_, h63⟩
  · rw [List.length_map]; omega
  · rw [List.length_map]; omega

/-! _law_mix -/
def sp_u_law_mix : Sp := fun vs H Q _ => ∃ c : Int, vs = [.int c] ∧ ∀ r : Int, 0 ≤ r → r < 2147483647 → Q (.int r) H
theorem ok_u_law_mix (T : Tx K mg A) : FnOk P w K mg base CX0 (1) A.a_u_law_mix A.d_u_law_mix ["cell"] sp_u_law_mix := by
  refine T.F_u_law_mix.ok sc_u_law_mix (fun vs H Q E h => ?_) (fun cdv Ar outer s0 H vs Q E hr h => ?_)
  · obtain ⟨c, rfl, _⟩ := h; rfl
  obtain ⟨c, rfl, q⟩ := h
  refine ⟨_, (pss_cons (ps_set (i := 1) sc_u_law_mix.nd rfl (Or.inl rfl) (pe_op op_mod (pe_callTy call_int1 (by rfl) T.n_int boot_int (pa_cons (pv 0) pa_nil)) pe_int))
    (pss_cons (ps_set (i := 1) sc_u_law_mix.nd rfl (Or.inl rfl) (pe_op op_mod (pe_callTy call_int1 (by rfl) T.n_int boot_int (pa_cons (pe_op op_add (pe_op op_mul (pv 1) pe_int) pe_int) pa_nil)) pe_int))
    (pss_one (ps_ret (pe_op op_mod (pe_callTy call_int1 (by rfl) T.n_int boot_int (pa_cons (pe_op op_add (pe_op op_mul (pv 1) pe_int) pe_int) pa_nil)) pe_int))))), ?_⟩
  walk_at "rd"
  refine q _ (Int.emod_nonneg _ (by decide)) ?_
  show _ % _ < _
  omega

/-! _law_number -/
def sp_u_law_number : Sp := fun vs H Q _ => ∃ c : Int, vs = [.int c] ∧ ∀ r : Int, 0 ≤ r → Q (.int r) H
theorem ok_u_law_number (T : Tx K mg A) : FnOk P w K mg base CX0 (2) A.a_u_law_number A.d_u_law_number ["cell"] sp_u_law_number := by
  have G_u_law_mix := ok_u_law_mix (P := P) (w := w) (base := base) T
  refine T.F_u_law_number.ok sc_u_law_number (fun vs H Q E h => ?_) (fun cdv Ar outer s0 H vs Q E hr h => ?_)
  · obtain ⟨c, rfl, _⟩ := h; rfl
  obtain ⟨c, rfl, q⟩ := h
  refine ⟨_, (pss_cons (ps_if (pt_cmpR op_ge (pv 0) (pe_op op_pow pe_int pe_int) (nomark _)) (pss_one (ps_ret (pv 0))) pss_nil)
    (pss_cons (ps_set (i := 1) sc_u_law_number.nd rfl (Or.inl rfl) (pe_call G_u_law_mix (hr.mono (by omega)) rfl T.m_u_law_mix T.F_u_law_mix.kp T.b_u_law_mix .nil pass0 (pa_cons (pv 0) pa_nil)))
    (pss_one (ps_ret (pe_op op_add (pe_op op_mul (pv 1) pe_int) (pe_call G_u_law_mix (hr.mono (by omega)) rfl T.m_u_law_mix T.F_u_law_mix.kp T.b_u_law_mix .nil pass0 (pa_cons (pe_op op_add (pv 1) (pv 0)) pa_nil))))))), ?_⟩
  walk_at "rd"
  refine ite2 (fun e => ?_) (fun e => ?_)
  · walk_at "rd"
    have e := of_decide_eq_true e
    refine q _ (Int.le_trans ?_ e)
    decide
  · walk_at "rd"
    intro r1 r10 r11
    walk_at "rd"
    intro r2 r20 r21
    walk_at "rd"
    refine q _ ?_
    show 0 ≤ r1 * 2147483629 + r2
    omega

/-! _law_draw -/
def sp_u_law_draw : Sp := fun vs H Q _ => ∃ (s l : Addr) (m : Int), vs = [.ref s, .int m] ∧ St H s l ∧ 1 ≤ m ∧ m < 1073741824 ∧ ∀ r H', 0 ≤ r → r < m → But s H H' → St H' s l → Q (.int r) H'
theorem ok_u_law_draw (T : Tx K mg A) : FnOk P w K mg base CX0 (3) A.a_u_law_draw A.d_u_law_draw ["state", "many"] sp_u_law_draw := by
  have G_u_law_number := ok_u_law_number (P := P) (w := w) (base := base) T
  refine T.F_u_law_draw.ok sc_u_law_draw (fun vs H Q E h => ?_) (fun cdv Ar outer s0 H vs Q E hr h => ?_)
  · obtain ⟨s, l, m, rfl, _⟩ := h; rfl
  obtain ⟨s, l, m, rfl, hst, m1, m2, q⟩ := h
  refine ⟨_, (pss_cons (ps_if (PW.pt (pw_and (pt_cmpR op_lt (pe_ix (r := rIxL K) ix_list (pv 0) pe_int (fun _ _ => rfl)) (pv 1) (nomark _)) (pw_and1 (pt_cmpR op_lt (pe_ix (r := rIxL K) ix_list (pv 0) pe_int (fun _ _ => rfl)) (pe_callB (r := rLenS K) j_len (by rfl) T.n_len PySem.boot_len (pa_cons (pe_ix (r := rIxL K) ix_list (pv 0) pe_int (fun _ _ => rfl)) pa_nil)) (nomark _))))) (pss_cons (ps_asg (pe_call G_u_law_number (hr.mono (by omega)) rfl T.m_u_law_number T.F_u_law_number.kp T.b_u_law_number .nil pass0 (pa_cons (pe_ix (r := rIxL K) ix_list (pe_ix (r := rIxL K) ix_list (pv 0) pe_int (fun _ _ => rfl)) (pe_ix (r := rIxL K) ix_list (pv 0) pe_int (fun _ _ => rfl)) (fun _ _ => rfl)) pa_nil)) (pg_sub (pv 0) pe_int set_list))
    (pss_one (ps_asg (pe_op op_add (pe_ix (r := rIxL K) ix_list (pv 0) pe_int (fun _ _ => rfl)) pe_int) (pg_sub (pv 0) pe_int set_list)))) pss_nil)
    (pss_cons (ps_if (pt_cmpR op_eq (pe_ix (r := rIxL K) ix_list (pv 0) pe_int (fun _ _ => rfl)) pe_int (nomark _)) (pss_cons (ps_asg (pe_op op_mod (pe_callTy call_int1 (by rfl) T.n_int boot_int (pa_cons (pe_op op_add (pe_op op_mul (pe_ix (r := rIxL K) ix_list (pv 0) pe_int (fun _ _ => rfl)) pe_int) pe_int) pa_nil)) pe_int) (pg_sub (pv 0) pe_int set_list))
    (pss_one (ps_ret (pe_op op_modN (pe_callTy call_int1 (by rfl) T.n_int boot_int (pa_cons (pe_op op_fdiv (pe_ix (r := rIxL K) ix_list (pv 0) pe_int (fun _ _ => rfl)) pe_int) pa_nil)) (pv 1))))) pss_nil)
    (pss_cons (ps_set (i := 2) sc_u_law_draw.nd rfl (Or.inl rfl) (pe_op op_modN (pe_callTy call_int1 (by rfl) T.n_int boot_int (pa_cons (pe_ix (r := rIxL K) ix_list (pv 0) pe_int (fun _ _ => rfl)) pa_nil)) (pv 1)))
    (pss_cons (ps_asg (pe_op op_fdivN (pe_ix (r := rIxL K) ix_list (pv 0) pe_int (fun _ _ => rfl)) (pv 1)) (pg_sub (pv 0) pe_int set_list))
    (pss_one (ps_ret (pv 2))))))), ?_⟩
  obtain ⟨v, at0, sd, ns, h1, h2, a0, a1, v0, sd0, sd1, h63⟩ := hst
  have ls : l ≠ s := St.ne_list h1 h2
  refine seq_join (fun σ' H' => σ' = [some (.ref s), some (.int m), none] ∧ But s H H' ∧ ∃ v at0 sd : Int, H' s = some (.lst [.int v, .ref l, .int at0, .int sd]) ∧ H' l = some (.lst (ns.map V.int)) ∧ 0 ≤ at0 ∧ at0 ≤ (ns.length : Int) ∧ 0 ≤ v ∧ 0 ≤ sd ∧ sd < 2147483648) ?_ (fun N cont => ?_)
  · rintro σ' H' ⟨rfl, b1, v, at0, sd, h1, h2, a0, a1, v0, sd0, sd1⟩
    refine seq_join (fun σ' H'' => σ' = [some (.ref s), some (.int m), none] ∧ H'' = H') ?_ (fun N cont => ?_)
    · rintro σ' H'' ⟨rfl, rfl⟩
      walk_at "rd"
      refine q _ _ (fmod_0 m1) (fmod_lt m1) (b1.trans (but_upd _)) ⟨_, at0, sd, ns, upd_same, ?_, a0, a1, ?_, sd0, sd1, h63⟩
      · rw [upd_ne ls]; exact h2
      · exact Int.fdiv_nonneg v0 (by omega)
    · walk_at "rd"
      refine ite2 (fun e => ?_) (fun e => cont _ _ ⟨rfl, rfl⟩)
      walk_at "rd"
      refine q _ _ (fmod_0 m1) (fmod_lt m1) (b1.trans (but_upd _)) ⟨_, at0, _, ns, upd_same, ?_, a0, a1, v0, ?_, ?_, h63⟩
      · rw [upd_ne ls]; exact h2
      · exact Int.emod_nonneg _ (by decide)
      · show (sd * 48271 + 7) % 2147483647 < _
        omega
  · walk_at "rd"
    refine ite2 (fun e => ?_) (fun e => ?_)
    · walk_at "rd"
      refine ite2 (fun e => ?_) (fun e => ?_)
      · have e := of_decide_eq_true e
        rw [List.length_map] at e
        obtain ⟨n, gat⟩ := at_int a0 e
        walk_at "rd"
        intro r r0
        walk_at "rd"

        refine cont _ _ ⟨rfl, (but_upd _).trans (but_upd _), _, _, sd, upd_same, ?_, ?_, ?_, r0, sd0, sd1⟩
        · rw [upd_ne ls, upd_ne ls]; exact h2
        · show 0 ≤ at0 + 1
          omega
        · show at0 + 1 ≤ _
          omega
      · exact cont _ _ ⟨rfl, But.refl _ _, v, at0, sd, h1, h2, a0, a1, v0, sd0, sd1⟩
    · exact cont _ _ ⟨rfl, But.refl _ _, v, at0, sd, h1, h2, a0, a1, v0, sd0, sd1⟩

/-! _law_word -/
def sp_u_law_word : Sp := fun vs H Q _ => ∃ (s l : Addr) (m : Nat), vs = [.ref s, .int (m : Int)] ∧ St H s l ∧ m ≤ 1000 ∧ ∀ z H', But s H H' → St H' s l → z.length = m → Low z → Q (.str z) H'
theorem ok_u_law_word (T : Tx K mg A) : FnOk P w K mg base CX0 (4) A.a_u_law_word A.d_u_law_word ["state", "many"] sp_u_law_word := by
  have G_u_law_draw := ok_u_law_draw (P := P) (w := w) (base := base) T
  refine T.F_u_law_word.ok sc_u_law_word (fun vs H Q E h => ?_) (fun cdv Ar outer s0 H vs Q E hr h => ?_)
  · obtain ⟨s, l, m, rfl, _⟩ := h; rfl
  obtain ⟨s, l, m, rfl, hst, hm, q⟩ := h
  refine ⟨_, (pss_cons (ps_set (i := 2) sc_u_law_word.nd rfl (Or.inr rfl) pe_str)
    (pss_one (ps_ret (pe_join pe_str (pe_lc (own := [("k", 3)]) (by rfl) sc_u_law_word.nd (pi_range1 rfl T.n_range (pa_cons (pv 1) pa_nil)) (blkOk_by (own := [("k", 3)]) (N := ["state", "many", "letters", "k"]) (sc := defScope s_u_law_word) (by decide +kernel)) (fun _ _ _ _ _ => (pg_name (i := 3) sc_u_law_word.nd rfl (Or.inl rfl))) (fun _ _ _ _ _ => pts_nil) (fun _ _ _ _ _ => (pe_ix ix_str (pv 2) (pe_call G_u_law_draw (hr.mono (by omega)) rfl T.m_u_law_draw T.F_u_law_draw.kp T.b_u_law_draw .nil pass0 (pa_cons (pv 0) (pa_cons pe_int pa_nil))) (fun _ _ => rfl)))))))), ?_⟩
  refine ⟨⟨_, rfl⟩, ?_⟩
  walk_at "rd"
  refine ⟨by omega, by omega, fun D hD => ?_⟩
  obtain ⟨sD, lD⟩ := hst.free hD
  refine lc_range (lo := 0) (n := m) (fun i H' => ∃ zs : List Str, H' D = some (.lst (zs.map V.str)) ∧ zs.length = i ∧ (∀ z ∈ zs, z.length = 1 ∧ Low z) ∧ But s H H' ∧ St H' s l) ?_ ?_ ?_
  · exact ⟨[], upd_same, rfl, (fun z hz => nomatch hz), but_same (same_new hD _), hst.upd sD lD⟩
  · rintro i H1 hi ⟨zs, hD1, hl, hz, b1, st1⟩
    refine ⟨rfl, ?_⟩
    walk_at "rd"
    refine ⟨s, l, 26, rfl, st1, by decide, by decide, fun r H2 r0 r1 b2 st2 => ?_⟩
    refine ⟨_, _, _, rfl, rfl, by decide, abc_at r0 r1, ?_⟩
    have hD2 := b2 _ _ hD1 sD.symm
    refine ⟨_, hD2, ?_, zs ++ [⟨#[97 + r.toNat]⟩], ?_, ?_, ?_, (b1.trans b2).mut hD _, st2.upd sD lD⟩
    · rw [List.length_map]; exact Nat.lt_of_le_of_lt (show zs.length ≤ 1000 by omega) (by decide)
    · rw [upd_same, List.map_append]; rfl
    · rw [List.length_append, hl]; rfl
    · intro z hz'
      rcases List.mem_append.mp hz' with h | h
      · exact hz z h
      · rw [List.mem_singleton.mp h]
        exact ⟨rfl, low_one (by omega)⟩
  · rintro H1 ⟨zs, hD1, hl, hz, b1, st1⟩
    have j := join_low hz
    refine ⟨_, _, zs, rfl, rfl, .inl (SqL.of hD1), ?_, q _ _ b1 st1 (by rw [j.1, hl]) j.2⟩
    rw [sum_ones fun z h => (hz z h).1]
    show zs.length + zs.length * 0 ≤ _
    omega

/-! _law_names -/
def sp_u_law_names : Sp := fun vs H Q _ => ∃ (s l : Addr) (m : Nat), vs = [.ref s, .int (m : Int)] ∧ St H s l ∧ m ≤ 26 ∧ ∀ p fs H', But s H H' → St H' s l → H p = none → H' p = some (.lst (fs.map V.str)) → fs.length = m → Names fs → Q (.ref p) H'
theorem ok_u_law_names (T : Tx K mg A) : FnOk P w K mg base CX0 (5) A.a_u_law_names A.d_u_law_names ["state", "count"] sp_u_law_names := by
  have G_u_law_draw := ok_u_law_draw (P := P) (w := w) (base := base) T
  have G_u_law_word := ok_u_law_word (P := P) (w := w) (base := base) T
  refine T.F_u_law_names.ok sc_u_law_names (fun vs H Q E h => ?_) (fun cdv Ar outer s0 H vs Q E hr h => ?_)
  · obtain ⟨s, l, m, rfl, _⟩ := h; rfl
  obtain ⟨s, l, m, rfl, hst, hm, q⟩ := h
  refine ⟨_, (pss_cons (ps_set (i := 2) sc_u_law_names.nd rfl (Or.inr rfl) pe_str)
    (pss_cons (ps_set (i := 3) sc_u_law_names.nd rfl (Or.inr rfl) (pe_call G_u_law_word (hr.mono (by omega)) rfl T.m_u_law_word T.F_u_law_word.kp T.b_u_law_word .nil pass0 (pa_cons (pv 0) (pa_cons (pe_call G_u_law_draw (hr.mono (by omega)) rfl T.m_u_law_draw T.F_u_law_draw.kp T.b_u_law_draw .nil pass0 (pa_cons (pv 0) (pa_cons pe_int pa_nil))) pa_nil))))
    (pss_cons (ps_set (i := 4) sc_u_law_names.nd rfl (Or.inr rfl) (pe_call G_u_law_word (hr.mono (by omega)) rfl T.m_u_law_word T.F_u_law_word.kp T.b_u_law_word .nil pass0 (pa_cons (pv 0) (pa_cons (pe_call G_u_law_draw (hr.mono (by omega)) rfl T.m_u_law_draw T.F_u_law_draw.kp T.b_u_law_draw .nil pass0 (pa_cons (pv 0) (pa_cons pe_int pa_nil))) pa_nil))))
    (pss_cons (ps_set (i := 5) sc_u_law_names.nd rfl (Or.inr rfl) (pe_call G_u_law_draw (hr.mono (by omega)) rfl T.m_u_law_draw T.F_u_law_draw.kp T.b_u_law_draw .nil pass0 (pa_cons (pv 0) (pa_cons pe_int pa_nil))))
    (pss_one (ps_ret (pe_lc (own := [("k", 6)]) (by rfl) sc_u_law_names.nd (pi_range1 rfl T.n_range (pa_cons (pv 1) pa_nil)) (blkOk_by (own := [("k", 6)]) (N := ["state", "count", "letters", "before", "behind", "first", "k"]) (sc := defScope s_u_law_names) (by decide +kernel)) (fun _ _ _ _ _ => (pg_name (i := 6) sc_u_law_names.nd rfl (Or.inl rfl))) (fun _ _ _ _ _ => pts_nil) (fun _ _ _ _ _ => (pe_op op_add_str (pe_op op_add_str (pv 3) (pe_ix ix_str (pv 2) (pe_op op_mod (pe_callTy call_int1 (by rfl) T.n_int boot_int (pa_cons (pe_op op_add (pv 5) (pe_op op_mul pe_int (pv 6))) pa_nil)) pe_int) (fun _ _ => rfl))) (pv 4)))))))))), ?_⟩
  walk_at "rd"
  refine ⟨s, l, 4, rfl, hst, by decide, by decide, fun r1 H1 r10 r11 b1 st1 => ?_⟩
  obtain ⟨k1, rfl⟩ := Int.eq_ofNat_of_zero_le r10
  refine ⟨s, l, k1, rfl, st1, by omega, fun z1 H2 b2 st2 zl1 zw1 => ?_⟩
  walk_at "rd"
  refine ⟨s, l, 4, rfl, st2, by decide, by decide, fun r3 H3 r30 r31 b3 st3 => ?_⟩
  obtain ⟨k3, rfl⟩ := Int.eq_ofNat_of_zero_le r30
  refine ⟨s, l, k3, rfl, st3, by omega, fun z4 H4 b4 st4 zl4 zw4 => ?_⟩
  walk_at "rd"
  refine ⟨s, l, 26, rfl, st4, by decide, by decide, fun r5 H5 r50 r51 b5 st5 => ?_⟩
  obtain ⟨f, rfl⟩ := Int.eq_ofNat_of_zero_le r50
  walk_at "rd"
  refine ⟨by omega, by omega, fun D hD => ?_⟩
  have bb := b1.trans (b2.trans (b3.trans (b4.trans b5)))
  obtain ⟨sD, lD⟩ := st5.free hD
  have hD0 : H D = none := by
    cases e : H D with
    | none => rfl
    | some o =>
      have := bb _ _ e sD.symm
      rw [hD] at this; cases this
  refine lc_range (lo := 0) (n := m) (fun i H' => H' D = some (.lst (((List.range i).map (nameAt z1 z4 f)).map V.str)) ∧ But s H5 H' ∧ St H' s l) ?_ ?_ ?_
  · exact ⟨upd_same, but_same (same_new hD _), st5.upd sD lD⟩
  · rintro i H6 hi ⟨hD6, b6, st6⟩
    refine ⟨rfl, ?_⟩
    walk_at "rd"
    have e : ((f : Int) + 3 * (0 + (i : Int))) % 26 = (((f + 3 * i) % 26 : Nat) : Int) := by omega
    refine ⟨_, _, 97 + (f + 3 * i) % 26, rfl, rfl, by decide, ?_, ?_⟩
    · show atI _ (((f : Int) + 3 * (0 + (i : Int))) % 26) = _
      rw [e]
      exact atI_nat (abc _ (Nat.mod_lt _ (by decide)))
    refine ⟨_, _, rfl, rfl, ?_, ?_⟩
    · show z1.length + 1 ≤ _
      exact Nat.le_trans (show z1.length + 1 ≤ 4 by omega) (by decide)
    walk_at "rd"
    refine ⟨?_, ?_⟩
    · rw [len_app]
      show z1.length + 1 + z4.length ≤ _
      exact Nat.le_trans (show z1.length + 1 + z4.length ≤ 10 by omega) (by decide)
    refine ⟨_, hD6, ?_, ?_, b6.mut hD _, st6.upd sD lD⟩
    · rw [List.length_map, List.length_map, List.length_range]; exact Nat.lt_of_le_of_lt (show i ≤ 26 by omega) (by decide)
    · rw [upd_same, List.range_succ, List.map_append, List.map_append]; rfl
  · rintro H6 ⟨hD6, b6, st6⟩
    refine q D _ H6 (bb.trans b6) st6 hD0 hD6 ?_ (names_ok zw1 zw4 (by omega) (by omega) hm)
    rw [List.length_map, List.length_range]

/-! _law_operations -/
def sp_u_law_operations : Sp := fun vs H Q _ => ∃ (s l : Addr), vs = [.ref s] ∧ St H s l ∧ ∀ o fs H', But s H H' → St H' s l → H o = none → Ops H' o fs → Q (.ref o) H'
theorem ok_u_law_operations (T : Tx K mg A) : FnOk P w K mg base CX0 (6) A.a_u_law_operations A.d_u_law_operations ["state"] sp_u_law_operations := by
  have G_u_law_draw := ok_u_law_draw (P := P) (w := w) (base := base) T
  have G_u_law_names := ok_u_law_names (P := P) (w := w) (base := base) T
  refine T.F_u_law_operations.ok sc_u_law_operations (fun vs H Q E h => ?_) (fun cdv Ar outer s0 H vs Q E hr h => ?_)
  · obtain ⟨s, l, rfl, _⟩ := h; rfl
  obtain ⟨s, l, rfl, hst, q⟩ := h
  refine ⟨_, (pss_cons (ps_set (i := 1) sc_u_law_operations.nd rfl (Or.inr rfl) (pe_call G_u_law_names (hr.mono (by omega)) rfl T.m_u_law_names T.F_u_law_names.kp T.b_u_law_names .nil pass0 (pa_cons (pv 0) (pa_cons pe_int pa_nil))))
    (pss_cons (ps_set (i := 2) sc_u_law_operations.nd rfl (Or.inr rfl) (pe_lst (pa_cons pe_int (pa_cons pe_int (pa_cons pe_int (pa_cons pe_int (pa_cons pe_int pa_nil)))))))
    (pss_one (ps_ret (pe_lc (own := [("k", 3)]) (by rfl) sc_u_law_operations.nd (pi_range1 rfl T.n_range (pa_cons (pe_op op_add pe_int (pe_call G_u_law_draw (hr.mono (by omega)) rfl T.m_u_law_draw T.F_u_law_draw.kp T.b_u_law_draw .nil pass0 (pa_cons (pv 0) (pa_cons pe_int pa_nil)))) pa_nil)) (blkOk_by (own := [("k", 3)]) (N := ["state", "names", "arities", "k"]) (sc := defScope s_u_law_operations) (by decide +kernel)) (fun _ _ _ _ _ => (pg_name (i := 3) sc_u_law_operations.nd rfl (Or.inl rfl))) (fun _ _ _ _ _ => pts_nil) (fun _ _ _ _ _ => (pe_tup (pa_cons (pe_ix (r := rIxL K) ix_list (pv 1) (pv 3) (fun _ _ => rfl)) (pa_cons (pe_ix (r := rIxL K) ix_list (pv 2) (pv 3) (fun _ _ => rfl)) pa_nil))))))))), ?_⟩
  walk_at "rd"
  refine ⟨s, l, 5, rfl, hst, by decide, fun p fs H1 b1 st1 np hp hl hn => ?_⟩
  walk_at "rd"
  refine ⟨by show 5 ≤ sizeLine; decide, ?_⟩
  first | intro ra n2 | refine fun ra n2 => ?_
  generalize ehn : upd H1 ra _ = H2
  have s2 := J.al_same n2 ehn
  have h2 := J.al_at ehn
  clear ehn
  walk_at "rd"
  have st2 := st1.same s2
  refine ⟨s, l, 2, rfl, st2, by decide, by decide, fun r H3 r0 r1 b3 st3 => ?_⟩
  obtain ⟨n, rfl⟩ := Int.eq_ofNat_of_zero_le r0
  walk_at "rd"
  refine ⟨by omega, by omega, fun D hD => ?_⟩
  obtain ⟨sD, lD⟩ := st3.free hD
  have bb := b1.trans ((but_same s2).trans b3)
  have hD0 : H D = none := by
    cases e : H D with
    | none => rfl
    | some o =>
      have := bb _ _ e sD.symm
      rw [hD] at this; cases this
  have nra : ra ≠ s := (st1.free n2).1.symm
  have hp3 : H3 p = some (.lst (fs.map V.str)) := b3 _ _ (s2 _ _ hp) fun z => by
    rw [z] at np
    exact (hst.free np).1 rfl
  have hra3 := b3 _ _ h2 nra
  refine lc_range (lo := 0) (n := 4 + n) (fun i H' => ∃ as : List Addr, H' D = some (.lst (as.map V.ref)) ∧ as.length = i ∧ Same H3 H' ∧ ∀ (k : Nat) (f : Str) (a : Addr), fs[k]? = some f → as[k]? = some a → H' a = some (.tup [.str f, .int (ar k)])) ?_ ?_ ?_
  · exact ⟨[], upd_same, rfl, same_new hD _, fun k f a _ e => by simp at e⟩
  · rintro i H6 hi ⟨as, hD6, hl6, s6, ht⟩
    refine ⟨rfl, ?_⟩
    have hi5 : i < fs.length := by omega
    have gf : (fs.map V.str)[i]? = some (.str fs[i]) := by rw [List.getElem?_map, List.getElem?_eq_getElem hi5]; rfl
    have e0 : (0 : Int) + (i : Int) = (i : Int) := by omega
    walk_at "rd"
    refine ⟨p, _, _, _, rfl, rfl, SqL.of (s6 _ _ hp3), by rw [e0]; exact atI_nat gf, ?_⟩
    walk_at "rd"
    have ga : ([.int 0, .int 0, .int 1, .int 2, .int 3] : List V)[i]? = some (.int (ar i)) := by
      match i, hi5, hl with
      | 0, _, _ => rfl
      | 1, _, _ => rfl
      | 2, _, _ => rfl
      | 3, _, _ => rfl
      | 4, _, _ => rfl
      | j + 5, h5, hl => omega
    refine ⟨ra, _, _, _, rfl, rfl, SqL.of (s6 _ _ hra3), by rw [e0]; exact atI_nat ga, ?_⟩
    walk_at "rd"
    refine ⟨by show 2 ≤ sizeLine; decide, ?_⟩
    first | intro t n7 | refine fun t n7 => ?_
    generalize ehn : upd H6 t _ = H7
    have s7 := J.al_same n7 ehn
    have h7 := J.al_at ehn
    clear ehn
    refine ⟨_, s7 _ _ hD6, ?_, as ++ [t], ?_, ?_, ?_, ?_⟩
    · rw [List.length_map]; exact Nat.lt_of_le_of_lt (show as.length ≤ 5 by omega) (by decide)
    · rw [upd_same, List.map_append]; rfl
    · rw [List.length_append, hl6]; rfl
    · exact same_mut (s6.trans s7) hD _
    · intro k f a hf ha
      have ntD : ∀ b xs, H7 b = some (.tup xs) → b ≠ D := fun b xs e z => by
        rw [z, s7 _ _ hD6] at e; cases e
      by_cases hk : k < as.length
      · rw [List.getElem?_append_left hk] at ha
        have q := s7 _ _ (ht k f a hf ha)
        rw [upd_ne (ntD _ _ q)]; exact q
      · have ek : k = i := by
          have := (List.getElem?_eq_some_iff.mp ha).1
          rw [List.length_append, List.length_singleton] at this
          omega
        subst ek
        rw [List.getElem?_append_right (by omega), hl6, Nat.sub_self] at ha
        have ea : t = a := by simpa using ha
        subst ea
        rw [List.getElem?_eq_getElem hi5] at hf
        injection hf with hf
        subst hf
        rw [upd_ne (ntD _ _ h7)]; exact h7
  · rintro H6 ⟨as, hD6, hl6, s6, ht⟩
    have hn' : Names (fs.take (4 + n)) := ⟨fun f h => hn.low f (List.mem_of_mem_take h), fun f h => hn.lo f (List.mem_of_mem_take h), fun f h => hn.hi f (List.mem_of_mem_take h), hn.nd.sublist (List.take_sublist _ _)⟩
    have hl' : (fs.take (4 + n)).length = 4 + n := by rw [List.length_take, hl]; omega
    refine q D (fs.take (4 + n)) H6 (bb.trans (but_same s6)) (st3.same s6) hD0 ⟨hn', by omega, as, hD6, by omega, fun k f a hf ha => ?_⟩
    have hk : k < 4 + n := by
      have := (List.getElem?_eq_some_iff.mp ha).1
      omega
    rw [List.getElem?_take_of_lt hk] at hf
    exact ht k f a hf ha

/-! _law_leaf -/
def sp_u_law_leaf : Sp := fun vs H Q _ => ∃ (s l o : Addr) (fs : List Str) (B : Int), vs = [.ref s, .ref o, .int B] ∧ St H s l ∧ Ops H o fs ∧ 0 ≤ B ∧ B < 1073741824 ∧ ∀ v t H', But s H H' → St H' s l → TmIn H' t v → t.wf fs B → t.dep ≤ 1 → t.sz = 1 → Q v H'
theorem ok_u_law_leaf (T : Tx K mg A) : FnOk P w K mg base CX0 (4) A.a_u_law_leaf A.d_u_law_leaf ["state", "operations", "count"] sp_u_law_leaf := by
  have G_u_law_draw := ok_u_law_draw (P := P) (w := w) (base := base) T
  refine T.F_u_law_leaf.ok sc_u_law_leaf (fun vs H Q E h => ?_) (fun cdv Ar outer s0 H vs Q E hr h => ?_)
  · obtain ⟨s, l, o, fs, B, rfl, _⟩ := h; rfl
  obtain ⟨s, l, o, fs, B, rfl, hst, hop, B0, B1, q⟩ := h
  refine ⟨_, (pss_cons (ps_if (PW.pt (pw_and (pt_cmpR op_gt (pv 2) pe_int (nomark _)) (pw_and1 (pt_cmpR op_eq (pe_call G_u_law_draw (hr.mono (by omega)) rfl T.m_u_law_draw T.F_u_law_draw.kp T.b_u_law_draw .nil pass0 (pa_cons (pv 0) (pa_cons pe_int pa_nil))) pe_int (nomark _))))) (pss_one (ps_ret (pe_call G_u_law_draw (hr.mono (by omega)) rfl T.m_u_law_draw T.F_u_law_draw.kp T.b_u_law_draw .nil pass0 (pa_cons (pv 0) (pa_cons (pv 2) pa_nil))))) pss_nil)
    (pss_one (ps_ret (pe_tup (pa_cons (pe_ix (r := rIxT K) ix_tup (pe_ix (r := rIxL K) ix_list (pv 1) (pe_call G_u_law_draw (hr.mono (by omega)) rfl T.m_u_law_draw T.F_u_law_draw.kp T.b_u_law_draw .nil pass0 (pa_cons (pv 0) (pa_cons pe_int pa_nil))) (fun _ _ => rfl)) pe_int (fun _ _ => rfl)) pa_nil))))), ?_⟩
  refine seq_join (fun σ' H' => σ' = [some (.ref s), some (.ref o), some (.int B)] ∧ But s H H' ∧ St H' s l) ?_ (fun N cont => ?_)
  · rintro σ' H1 ⟨rfl, b1, st1⟩
    have op1 := hop.but hst b1
    walk_at "rd"
    refine ⟨s, l, 2, rfl, st1, by decide, by decide, fun r H2 r0 r1 b2 st2 => ?_⟩
    have op2 := op1.but st1 b2
    obtain ⟨n, rfl⟩ := Int.eq_ofNat_of_zero_le r0
    obtain ⟨xs, a, f, ho, hl, hx, hf, ha⟩ := op2.get (k := n) (by have := op2.2.1; omega)
    refine ⟨o, _, _, _, rfl, rfl, SqL.of ho, atI_nat hx, ?_⟩
    walk_at "rd"
    refine ⟨by show 1 ≤ sizeLine; decide, ?_⟩
    first | intro p n3 | refine fun p n3 => ?_
    generalize ehn : upd H2 p _ = H3
    have s3 := J.al_same n3 ehn
    have h3 := J.al_at ehn
    clear ehn
    refine q (.ref p) (.app f []) H3 (b1.trans (b2.trans (but_same s3))) (st2.same s3) ⟨p, [], rfl, h3, rfl⟩ ⟨⟨n, hf, ?_⟩, trivial⟩ (Nat.le_refl _) rfl
    show 0 = ar n
    unfold ar
    rw [if_pos (by omega)]
  · walk_at "rd"
    refine ite2 (fun e => ?_) (fun e => ?_)
    · have e := of_decide_eq_true e
      walk_at "rd"
      refine ⟨s, l, 2, rfl, hst, by decide, by decide, fun r H2 r0 r1 b2 st2 => ?_⟩
      walk_at "rd"
      refine ite2 (fun e2 => ?_) (fun e2 => ?_)
      · walk_at "rd"
        refine ⟨s, l, B, rfl, st2, by omega, B1, fun r3 H3 r30 r31 b3 st3 => ?_⟩
        exact q _ (.var r3) H3 (b2.trans b3) st3 rfl ⟨r30, r31⟩ (Nat.le_refl _) rfl
      · exact cont _ _ ⟨rfl, b2, st2⟩
    · exact cont _ _ ⟨rfl, But.refl _ _, hst⟩

/-! _law_term -/
def sp_u_law_term (N : Nat) : Sp := fun vs H Q _ => ∃ (s l o : Addr) (fs : List Str) (B : Int) (h : Nat), h < N ∧ vs = [.ref s, .ref o, .int B, .int (h : Int)] ∧ St H s l ∧ Ops H o fs ∧ 0 ≤ B ∧ B < 1073741824 ∧
  ∀ v t H', But s H H' → St H' s l → TmIn H' t v → t.wf fs B → t.dep ≤ h + 1 → 2 * t.sz + 1 ≤ 3 ^ (h + 1) → Q v H'
theorem st_u_law_term (T : Tx K mg A) (N : Nat) (G_u_law_term : FnOk P w K mg base CX0 (N + 5) A.a_u_law_term A.d_u_law_term ["state", "operations", "count", "height"] (sp_u_law_term N)) : FnOk P w K mg base CX0 (N + 6) A.a_u_law_term A.d_u_law_term ["state", "operations", "count", "height"] (sp_u_law_term (N + 1)) := by
  have G_u_law_draw := ok_u_law_draw (P := P) (w := w) (base := base) T
  have G_u_law_leaf := ok_u_law_leaf (P := P) (w := w) (base := base) T
  refine T.F_u_law_term.ok sc_u_law_term (fun vs H Q E h => ?_) (fun cdv Ar outer s0 H vs Q E hr h => ?_)
  · obtain ⟨s, l, o, fs, B, h, hN, rfl, _⟩ := h; rfl
  obtain ⟨s, l, o, fs, B, h, hN, rfl, hst, hop, B0, B1, q⟩ := h
  refine ⟨_, (pss_cons (ps_if (PW.pt (pw_or (pt_cmpR op_eq (pv 3) pe_int (nomark _)) (pw_or1 (pt_cmpR op_eq (pe_call G_u_law_draw (hr.mono (by omega)) rfl T.m_u_law_draw T.F_u_law_draw.kp T.b_u_law_draw .nil pass0 (pa_cons (pv 0) (pa_cons pe_int pa_nil))) pe_int (nomark _))))) (pss_one (ps_ret (pe_call G_u_law_leaf (hr.mono (by omega)) rfl T.m_u_law_leaf T.F_u_law_leaf.kp T.b_u_law_leaf .nil pass0 (pa_cons (pv 0) (pa_cons (pv 1) (pa_cons (pv 2) pa_nil)))))) pss_nil)
    (pss_cons (ps_asg (pe_ix (r := rIxL K) ix_list (pv 1) (pe_op op_add pe_int (pe_call G_u_law_draw (hr.mono (by omega)) rfl T.m_u_law_draw T.F_u_law_draw.kp T.b_u_law_draw .nil pass0 (pa_cons (pv 0) (pa_cons (pe_op op_sub (pe_callB (r := rLenS K) j_len (by rfl) T.n_len PySem.boot_len (pa_cons (pv 1) pa_nil)) pe_int) pa_nil)))) (fun _ _ => rfl)) (pg_tup (by rfl) (pgs_cons (pg_name (i := 4) sc_u_law_term.nd rfl (Or.inl rfl)) (pgs_cons (pg_name (i := 5) sc_u_law_term.nd rfl (Or.inl rfl)) pgs_nil))))
    (pss_cons (ps_set (i := 6) sc_u_law_term.nd rfl (Or.inl rfl) (pe_tup (pa_cons (pv 4) pa_nil)))
    (pss_cons (ps_for PassesOwn.never rfl (pi_range1 rfl T.n_range (pa_cons (pv 5) pa_nil)) (pg_name (i := 7) sc_u_law_term.nd rfl (Or.inl rfl)) (pss_one (ps_set (i := 6) sc_u_law_term.nd rfl (Or.inl rfl) (pe_op (r := rCatT K) op_catT (pv 6) (pe_tup (pa_cons (pe_call G_u_law_term (hr.mono (by omega)) rfl T.m_u_law_term T.F_u_law_term.kp T.b_u_law_term .nil pass0 (pa_cons (pv 0) (pa_cons (pv 1) (pa_cons (pv 2) (pa_cons (pe_op op_sub (pv 3) pe_int) pa_nil))))) pa_nil))))))
    (pss_one (ps_ret (pv 6))))))), ?_⟩
  refine seq_join (fun σ' H' => σ' = [some (.ref s), some (.ref o), some (.int B), some (.int (h : Int)), none, none, none, none] ∧ But s H H' ∧ St H' s l ∧ 1 ≤ h) ?_ (fun N' cont => ?_)
  · rintro σ' H1 ⟨rfl, b1, st1, h1⟩
    have op1 := hop.but hst b1
    have hfl := op1.2.1
    obtain ⟨xs1, _, _, ho1, hxl, _⟩ := op1.get (k := 0) (by omega)
    walk_at "rd"
    refine ⟨s, l, _, rfl, st1, by show (1 : Int) ≤ (xs1.length : Int) - 2; omega, by show (xs1.length : Int) - 2 < _; omega, fun r H2 r0 r1 b2 st2 => ?_⟩
    have r1 : r < (xs1.length : Int) - 2 := r1
    have op2 := op1.but st1 b2
    obtain ⟨n, rfl⟩ := Int.eq_ofNat_of_zero_le r0
    obtain ⟨xs, a, f, ho, hl, hx, hf, ha⟩ := op2.get (k := n + 2) (by omega)
    have e2 : (2 : Int) + (n : Int) = ((n + 2 : Nat) : Int) := by omega
    refine ⟨_, _, rfl, rfl, ?_⟩
    refine ⟨o, _, _, _, rfl, rfl, SqL.of ho, by rw [e2]; exact atI_nat hx, ?_⟩
    refine ⟨a, _, rfl, SqT.of ha, rfl, _, _, rfl, _, _, rfl, rfl, ?_⟩
    walk_at "rd"
    refine ⟨by show 1 ≤ sizeLine; decide, ?_⟩
    first | intro p n3 | refine fun p n3 => ?_
    generalize ehn : upd H2 p _ = H3
    have s3 := J.al_same n3 ehn
    have h3 := J.al_at ehn
    clear ehn
    have har : ar (n + 2) = n + 1 := by unfold ar; rw [if_neg (by omega)]; rfl
    have st3 := st2.same s3
    have op3 := op2.same s3
    walk_at "rd"
    refine ⟨by omega, by omega, for_range (lo := 0) (n := ar (n + 2)) (fun i σ' H' => ∃ p ts vs x, σ' = [some (.ref s), some (.ref o), some (.int B), some (.int (h : Int)), some (.str f), some (.int (ar (n + 2) : Int)), some (.ref p), x] ∧ H' p = some (.tup (.str f :: vs)) ∧ TmsIn H' ts vs ∧ ts.length = i ∧ (∀ t ∈ ts, t.wf fs B ∧ t.dep ≤ h ∧ 2 * t.sz + 1 ≤ 3 ^ h) ∧ But s H3 H' ∧ St H' s l) ?_ ?_ ?_⟩
    · exact ⟨p, [], [], none, rfl, h3, rfl, rfl, (fun t ht => nomatch ht), But.refl _ _, st3⟩
    · rintro i σ' H4 hi ⟨p, ts, vs, x, rfl, hp, hts, hl', hw, b4, st4⟩
      walk_at "rd"
      refine ⟨s, l, o, fs, B, h - 1, by omega, by have e : ((h - 1 : Nat) : Int) = (h : Int) - 1 := by omega
                                                  rw [e]; rfl, st4, op3.but st3 b4, B0, B1, fun v t H5 b5 st5 ht htw htd hts' => ?_⟩
      refine ⟨by show 1 ≤ sizeLine; decide, ?_⟩
      first | intro u n6 | refine fun u n6 => ?_
      generalize ehn : upd H5 u _ = H6
      have s6 := J.al_same n6 ehn
      have h6 := J.al_at ehn
      clear ehn
      have tu45 := st4.tu b5
      have hlen : vs.length = i := by rw [hts.length, hl']
      refine ⟨p, u, _, _, rfl, rfl, SqT.of (s6 _ _ (tu45 _ _ hp)), SqT.of h6, List.cons_ne_nil _ _, ?_, fun z => absurd z (List.cons_ne_nil _ _), fun _ => ?_⟩
      · rw [List.length_cons, hlen]
        exact Nat.le_trans (show i + 1 + 1 ≤ 10 by omega) (by decide)
      first | intro y n7 | refine fun y n7 => ?_
      generalize ehn : upd H6 y _ = H7
      have s7 := J.al_same n7 ehn
      have h7 := J.al_at ehn
      clear ehn
      have tu67 : Tu H4 H7 := tu45.trans ((tu_same s6).trans (tu_same s7))
      refine ⟨y, ts ++ [t], vs ++ [v], _, rfl, h7, (hts.tu tu67).append (TmsIn.one ((ht.tu (tu_same s6)).tu (tu_same s7))), ?_, ?_, b4.trans (b5.trans ((but_same s6).trans (but_same s7))), (st5.same s6).same s7⟩
      · rw [List.length_append, hl']; rfl
      · intro t' ht'
        rcases List.mem_append.mp ht' with z | z
        · exact hw t' z
        · rw [List.mem_singleton.mp z]
          rw [show h - 1 + 1 = h by omega] at hts' htd
          exact ⟨htw, htd, hts'⟩
    · rintro σ' H4 ⟨p, ts, vs, x, rfl, hp, hts, hl', hw, b4, st4⟩
      walk_at "rd"
      refine q (.ref p) (.app f ts) H4 (b1.trans (b2.trans ((but_same s3).trans b4))) st4 ⟨p, vs, rfl, hp, hts⟩ ⟨⟨n + 2, hf, hl'⟩, Tm.wfs_of fun t ht => (hw t ht).1⟩ ?_ ?_
      · have := Tm.deps_le fun t ht => (hw t ht).2.1
        show 1 + Tm.deps ts ≤ h + 1
        omega
      · exact Tm.szs_three (by omega) fun t ht => (hw t ht).2.2
  · walk_at "rd"
    refine ite2 (fun e => ?_) (fun e => ?_)
    · walk_at "rd"
      refine ⟨s, l, o, fs, B, rfl, hst, hop, B0, B1, fun v t H1 b1 st1 ht hw hd hz => q v t H1 b1 st1 ht hw (by omega) (by rw [hz]; exact Nat.pow_le_pow_right (by decide : 3 > 0) (show 1 ≤ h + 1 by omega))⟩
    · have e : ¬ V.int (h : Int) = V.int 0 := fun z => e (decide_eq_true z)
      have h1 : 1 ≤ h := by
        rcases Nat.eq_zero_or_pos h with z | z
        · rw [z] at e; exact absurd rfl e
        · exact z
      walk_at "rd"
      refine ⟨s, l, 4, rfl, hst, by decide, by decide, fun r H2 r0 r1 b2 st2 => ?_⟩
      walk_at "rd"
      refine ite2 (fun e => ?_) (fun e => ?_)
      · walk_at "rd"
        refine ⟨s, l, o, fs, B, rfl, st2, hop.but hst b2, B0, B1, fun v t H1 b1 st1 ht hw hd hz => q v t H1 (b2.trans b1) st1 ht hw (by omega) (by rw [hz]; exact Nat.pow_le_pow_right (by decide : 3 > 0) (show 1 ≤ h + 1 by omega))⟩
      · exact cont _ _ ⟨rfl, b2, st2, h1⟩

theorem all_u_law_term (T : Tx K mg A) : ∀ N : Nat, FnOk P w K mg base CX0 (N + 5) A.a_u_law_term A.d_u_law_term ["state", "operations", "count", "height"] (sp_u_law_term N)
  | 0 => fn_none fun vs H Q E h => by obtain ⟨s, l, o, fs, B, h, hN, _⟩ := h; omega
  | N + 1 => st_u_law_term T N (all_u_law_term T N)
theorem ok_u_law_term (T : Tx K mg A) : FnOk P w K mg base CX0 10 A.a_u_law_term A.d_u_law_term ["state", "operations", "count", "height"] (sp_u_law_term 5) := all_u_law_term T 5

/-! _law_tall -/
def sp_u_law_tall : Sp := fun vs H Q _ => ∃ (s l o : Addr) (fs : List Str) (B : Int), vs = [.ref s, .ref o, .int B] ∧ St H s l ∧ Ops H o fs ∧ 0 ≤ B ∧ B < 1073741824 ∧
  ∀ v t H', But s H H' → St H' s l → TmIn H' t v → t.wf fs B → t.dep ≤ 30 → t.sz ≤ 146 → Q v H'
theorem ok_u_law_tall (T : Tx K mg A) : FnOk P w K mg base CX0 (11) A.a_u_law_tall A.d_u_law_tall ["state", "operations", "count"] sp_u_law_tall := by
  have G_u_law_draw := ok_u_law_draw (P := P) (w := w) (base := base) T
  have G_u_law_term := ok_u_law_term (P := P) (w := w) (base := base) T
  refine T.F_u_law_tall.ok sc_u_law_tall (fun vs H Q E h => ?_) (fun cdv Ar outer s0 H vs Q E hr h => ?_)
  · obtain ⟨s, l, o, fs, B, rfl, _⟩ := h; rfl
  obtain ⟨s, l, o, fs, B, rfl, hst, hop, B0, B1, q⟩ := h
  refine ⟨_, (pss_cons (ps_set (i := 3) sc_u_law_tall.nd rfl (Or.inl rfl) (pe_call G_u_law_term (hr.mono (by omega)) rfl T.m_u_law_term T.F_u_law_term.kp T.b_u_law_term .nil pass0 (pa_cons (pv 0) (pa_cons (pv 1) (pa_cons (pv 2) (pa_cons pe_int pa_nil))))))
    (pss_cons (ps_if (pt_cmpR op_eq (pe_call G_u_law_draw (hr.mono (by omega)) rfl T.m_u_law_draw T.F_u_law_draw.kp T.b_u_law_draw .nil pass0 (pa_cons (pv 0) (pa_cons pe_int pa_nil))) pe_int (nomark _)) (pss_one (ps_for PassesOwn.never rfl (pi_range1 rfl T.n_range (pa_cons (pe_call G_u_law_draw (hr.mono (by omega)) rfl T.m_u_law_draw T.F_u_law_draw.kp T.b_u_law_draw .nil pass0 (pa_cons (pv 0) (pa_cons pe_int pa_nil))) pa_nil)) (pg_name (i := 4) sc_u_law_tall.nd rfl (Or.inl rfl)) (pss_one (ps_set (i := 3) sc_u_law_tall.nd rfl (Or.inl rfl) (pe_tup (pa_cons (pe_ix (r := rIxT K) ix_tup (pe_ix (r := rIxL K) ix_list (pv 1) pe_int (fun _ _ => rfl)) pe_int (fun _ _ => rfl)) (pa_cons (pv 3) pa_nil))))))) pss_nil)
    (pss_one (ps_ret (pv 3))))), ?_⟩
  walk_at "rd"
  refine ⟨s, l, o, fs, B, 4, by decide, rfl, hst, hop, B0, B1, fun v t H1 b1 st1 ht hw hd hz => ?_⟩
  have hz : 2 * t.sz + 1 ≤ 243 := hz
  walk_at "rd"
  refine ⟨s, l, 4, rfl, st1, by decide, by decide, fun r H2 r0 r1 b2 st2 => ?_⟩
  walk_at "rd"
  have op2 := (hop.but hst b1).but st1 b2
  have ht2 := ht.tu (st1.tu b2)
  refine ite2 (fun e => ?_) (fun e => ?_)
  · walk_at "rd"
    refine ⟨s, l, 26, rfl, st2, by decide, by decide, fun r3 H3 r30 r31 b3 st3 => ?_⟩
    obtain ⟨n, rfl⟩ := Int.eq_ofNat_of_zero_le r30
    have op3 := op2.but st2 b3
    refine ⟨_, rfl, by omega, by omega, for_range (lo := 0) (n := n) (fun i σ' H' => ∃ v t x, σ' = [some (.ref s), some (.ref o), some (.int B), some v, x] ∧ TmIn H' t v ∧ t.wf fs B ∧ t.dep ≤ 5 + i ∧ t.sz ≤ 121 + i ∧ Same H3 H') ?_ ?_ ?_⟩
    · exact ⟨v, t, none, rfl, ht2.tu (st2.tu b3), hw, hd, by omega, Same.refl _⟩
    · rintro i σ' H4 hi ⟨v, t, x, rfl, ht, hw, hd, hz', s4⟩
      have op4 := op3.same s4
      obtain ⟨xs, a, f, ho, hl, hx, hf, ha⟩ := op4.get (k := 2) (by have := op4.2.1; omega)
      walk_at "rd"
      refine ⟨o, _, _, _, rfl, rfl, SqL.of ho, atI_nat (j := 2) hx, ?_⟩
      walk_at "rd"
      refine ⟨by show 2 ≤ sizeLine; decide, ?_⟩
      first | intro p n5 | refine fun p n5 => ?_
      generalize ehn : upd H4 p _ = H5
      have s5 := J.al_same n5 ehn
      have h5 := J.al_at ehn
      clear ehn
      refine ⟨.ref p, .app f [t], _, rfl, ⟨p, [v], rfl, h5, TmsIn.one (ht.tu (tu_same s5))⟩, ⟨⟨2, hf, rfl⟩, hw, trivial⟩, ?_, ?_, s4.trans s5⟩
      · show 1 + max t.dep 0 ≤ _
        omega
      · show 1 + (t.sz + 0) ≤ _
        omega
    · rintro σ' H4 ⟨v, t, x, rfl, ht, hw, hd, hz', s4⟩
      walk_at "rd"
      exact q v t H4 (b1.trans (b2.trans (b3.trans (but_same s4)))) (st3.same s4) ht hw (by omega) (by omega)
  · walk_at "rd"
    exact q v t H2 (b1.trans b2) st2 ht2 hw (by omega) (by omega)

/-! _law_positions -/
def sp_u_law_positions (N : Nat) : Sp := fun vs H Q _ => ∃ (v : V) (t : Tm), vs = [v] ∧ TmIn H t v ∧ t.sz ≤ 100000 ∧ t.dep ≤ N ∧ ∀ p H', Same H H' → H p = none → PosIn H' p (poss t) → Q (.ref p) H'
theorem st_u_law_positions (T : Tx K mg A) (N : Nat) (G_u_law_positions : FnOk P w K mg base CX0 (N + 1) A.a_u_law_positions A.d_u_law_positions ["term"] (sp_u_law_positions N)) : FnOk P w K mg base CX0 (N + 2) A.a_u_law_positions A.d_u_law_positions ["term"] (sp_u_law_positions (N + 1)) := by

  refine T.F_u_law_positions.ok sc_u_law_positions (fun vs H Q E h => ?_) (fun cdv Ar outer s0 H vs Q E hr h => ?_)
  · obtain ⟨v, t, rfl, _⟩ := h; rfl
  obtain ⟨v, t, rfl, ht, hz, hd, q⟩ := h
  refine ⟨_, (pss_cons (ps_set (i := 1) sc_u_law_positions.nd rfl (Or.inl rfl) (pe_lst (pa_cons (pe_tup pa_nil) pa_nil)))
    (pss_cons (ps_if (pt_val (pe_callB (r := rIsi K) call_isi (by rfl) T.n_isinstance boot_isinstance (pa_cons (pv 0) (pa_cons (pe_bltn (v := .ty "int") (by rfl) T.n_int boot_int rfl) pa_nil)))) (pss_one (ps_ret (pv 1))) pss_nil)
    (pss_cons (ps_for PassesOwn.never rfl (pi_range2 rfl T.n_range (pa_cons pe_int (pa_cons (pe_callB (r := rLenS K) j_len (by rfl) T.n_len PySem.boot_len (pa_cons (pv 0) pa_nil)) pa_nil))) (pg_name (i := 2) sc_u_law_positions.nd rfl (Or.inl rfl)) (pss_one (ps_for PassesOwn.never rfl (pi_list (pe_call G_u_law_positions (hr.mono (by omega)) rfl T.m_u_law_positions T.F_u_law_positions.kp T.b_u_law_positions .nil pass0 (pa_cons (pe_ix (r := rIxT K) ix_tup (pv 0) (pv 2) (fun _ _ => rfl)) pa_nil))) (pg_name (i := 3) sc_u_law_positions.nd rfl (Or.inl rfl)) (pss_one (ps_expr (pe_bm PySem.F.plainAttrs_list PySem.F.slot_list_append PySem.F.type_list_append mt_append (pv 1) (pa_cons (pe_op (r := rCatT K) op_catT (pe_tup (pa_cons (pv 2) pa_nil)) (pv 3)) pa_nil)))))))
    (pss_one (ps_ret (pv 1)))))), ?_⟩
  walk_at "rd"
  refine ⟨by show 0 ≤ sizeLine; decide, ?_⟩
  first | intro e n1 | refine fun e n1 => ?_
  generalize ehn : upd H e _ = H1
  have s1 := J.al_same n1 ehn
  have h1 := J.al_at ehn
  clear ehn
  refine ⟨by show 1 ≤ sizeLine; decide, ?_⟩
  first | intro p n2 | refine fun p n2 => ?_
  generalize ehn : upd H1 p _ = H2
  have s2 := J.al_same n2 ehn
  have h2 := J.al_at ehn
  clear ehn
  have hp0 : PosIn H2 p [[]] := ⟨[e], h2, rfl, fun k a r ea er => by
    have hk : k < 1 := (List.getElem?_eq_some_iff.mp ea).1
    have : k = 0 := by omega
    subst this
    cases ea; cases er
    exact s2 _ _ h1⟩
  have np0 : H p = none := s1.free n2
  cases t with
  | var n =>
    cases (show v = .int n from ht)
    walk_at "ri"
    exact q p H2 (s1.trans s2) np0 hp0
  | app f ts =>
    obtain ⟨a, vs, rfl, ha, hts⟩ := ht
    have hvl := hts.length
    have hz : 1 + Tm.szs ts ≤ 100000 := hz
    have hll := Tm.len_le ts
    have ha2 := s2 _ _ (s1 _ _ ha)
    have hts2 := (hts.tu (tu_same s1)).tu (tu_same s2)
    walk_at "ri"
    refine ⟨1, _, rfl, ⟨by decide, by decide, ?_, ?_⟩, ?_⟩
    · show -(2 ^ 62) ≤ ((vs.length + 1 : Nat) : Int); omega
    · show ((vs.length + 1 : Nat) : Int) < 2 ^ 62; omega
    have en : (((V.str f :: vs).length : Int) - 1).toNat = ts.length := by
      show (((vs.length + 1 : Nat) : Int) - 1).toNat = _
      omega
    rw [en]
    refine for_range (lo := 1) (n := ts.length) (fun i σ' H' => ∃ x y, σ' = [some (.ref a), some (.ref p), x, y] ∧ But p H2 H' ∧ PosIn H' p ([] :: posss 1 (ts.take i))) ?_ ?_ ?_
    · exact ⟨none, none, rfl, But.refl _ _, hp0⟩
    · rintro i σ' H' hi ⟨x, y, rfl, b, hp⟩
      have gt := List.getElem?_eq_getElem hi
      obtain ⟨v1, gv1, hv1⟩ := hts2.get' gt
      have mt : ts[i] ∈ ts := List.getElem_mem hi
      have hst := Tm.sz_arg mt
      have tub : Tu H2 H' := but_tu b (lst_not_tup h2)
      have e1 : (1 : Int) + (i : Int) = ((i + 1 : Nat) : Int) := by omega
      have gt1 : atI (V.str f :: vs) ((1 : Int) + (i : Int)) = some v1 := by rw [e1]; exact atI_nat (j := i + 1) (by rw [List.getElem?_cons_succ]; exact gv1)
      have ha3 := tub _ _ ha2
      walk_at "rd"
      refine ⟨v1, ts[i], rfl, hv1.tu tub, by omega, TmIn.dep_arg hd mt, fun p3 H3 s3 n3 hp3 => ?_⟩
      have hpp := hp.same s3
      have n33 : p3 ≠ p := fun z => by
        obtain ⟨as, e, _⟩ := hp
        rw [z, e] at n3; cases n3
      obtain ⟨as3, g3, l3, f3⟩ := hp3
      refine ⟨_, rfl, ⟨_, SqL.of g3⟩, for_list (K := K) (a := p3) (xs := as3.map V.ref) (fun j σ' H'' => ∃ y, σ' = [some (.ref a), some (.ref p), some (.int (1 + (i : Int))), y] ∧ But p H3 H'' ∧ PosIn H'' p ([] :: posss 1 (ts.take i) ++ ((poss ts[i]).take j).map (fun q => (1 + (i : Int)) :: q))) ?_ ?_ ?_ ?_⟩
      · exact ⟨_, rfl, But.refl _ _, by rw [List.take_zero, List.map_nil, List.append_nil]; exact hpp⟩
      · rintro j σ' H'' hj ⟨y, rfl, b4, hp4⟩
        exact SqL.of (b4 _ _ g3 n33)
      · rintro j y2 σ' H'' hj ⟨y, rfl, b4, hp4⟩
        have hj' : j < as3.length := by
          have := (List.getElem?_eq_some_iff.mp hj).1
          rw [List.length_map] at this; exact this
        have gj := List.getElem?_eq_getElem (l := poss ts[i]) (i := j) (by omega)
        have ej : y2 = .ref as3[j] := by
          rw [List.getElem?_map, List.getElem?_eq_getElem hj'] at hj
          exact (Option.some.inj hj).symm
        subst ej
        have hin := f3 j _ _ (List.getElem?_eq_getElem hj') gj
        have npl : ∀ xs, H3 p ≠ some (.tup xs) := by
          obtain ⟨as, e, _⟩ := hpp
          exact lst_not_tup e
        have tu4 : Tu H3 H'' := but_tu b4 npl
        obtain ⟨as4, g4, l4, f4⟩ := hp4
        walk_at "rd"
        refine ⟨.inl ⟨rfl, _, SqL.of g4⟩, ?_⟩
        walk_at "rd"
        refine ⟨by show 1 ≤ sizeLine; decide, ?_⟩
        first | intro t1 n5 | refine fun t1 n5 => ?_
        generalize ehn : upd H'' t1 _ = H5
        have s5 := J.al_same n5 ehn
        have h5 := J.al_at ehn
        clear ehn
        have hin5 := s5 _ _ (tu4 _ _ hin)
        walk_at "rd"
        have hq := (poss_is _ _ (List.mem_of_getElem? gj)).2
        have hdt := TmIn.dep_arg hd mt
        have lens : as4.length ≤ 100001 := by
          rw [l4, List.length_append, List.length_map, List.length_take, List.length_cons, posss_len]
          have h1 := szs_take ts i
          have h2 := poss_len ts[i]
          have h3 : Tm.szs (ts.take i) + ts[i].sz ≤ Tm.szs ts := by
            have := szs_take ts (i + 1)
            rw [list_take_succ gt, szs_app] at this
            have e : Tm.szs [ts[i]] = ts[i].sz := by show ts[i].sz + 0 = _; omega
            omega
          omega
        have e2 : (poss ts[i]).take (j + 1) = (poss ts[i]).take j ++ [(poss ts[i])[j]] := list_take_succ gj
        have fin : ∀ (b0 : Addr) (H6 : Hp), Same H'' H6 → H6 b0 = some (.tup (((1 + (i : Int)) :: (poss ts[i])[j]).map V.int)) → PosIn (upd H6 p (.lst (as4.map V.ref ++ [.ref b0]))) p ([] :: posss 1 (ts.take i) ++ ((poss ts[i]).take (j + 1)).map (fun q => (1 + (i : Int)) :: q)) := by
          intro b0 H6 s6 h6
          have hp6 := s6 _ _ g4
          rw [e2, List.map_append, ← List.append_assoc]
          refine PosIn.push (as := as4) g4 l4 f4 ((tu_same s6).trans (tu_upd (lst_not_tup hp6))) upd_same ?_
          rw [upd_ne fun z => by rw [z, hp6] at h6; cases h6]
          exact h6
        refine ⟨t1, _, _, _, rfl, rfl, SqT.of h5, SqT.of hin5, List.cons_ne_nil _ _, ?_, fun z => ?_, fun _ => ?_⟩
        · rw [List.length_map]
          show 0 + 1 + _ ≤ _
          have hN : ts[i].dep ≤ 100000 := by have := Tm.dep_le_sz ts[i]; omega
          exact Nat.le_trans (show 0 + 1 + (poss ts[i])[j].length ≤ 100001 by omega) (by decide)
        · have z : (poss ts[i])[j] = [] := List.map_eq_nil_iff.mp z
          refine ⟨p, _, _, rfl, rfl, s5 _ _ g4, by rw [List.length_map]; exact Nat.lt_of_le_of_lt lens (by decide), _, rfl, b4.trans ((but_same s5).trans (but_upd _)), fin t1 H5 s5 ?_⟩
          rw [z]; exact h5
        · first | intro t2 n6 | refine fun t2 n6 => ?_
          generalize ehn : upd H5 t2 _ = H6
          have s6 := J.al_same n6 ehn
          have h6 := J.al_at ehn
          clear ehn
          exact ⟨p, _, _, rfl, rfl, s6 _ _ (s5 _ _ g4), by rw [List.length_map]; exact Nat.lt_of_le_of_lt lens (by decide), _, rfl, b4.trans ((but_same s5).trans ((but_same s6).trans (but_upd _))), fin t2 H6 (s5.trans s6) h6⟩
      · rintro σ' H'' ⟨y, rfl, b4, hp4⟩
        rw [List.length_map, l3, List.take_length] at hp4
        refine ⟨_, _, rfl, b.trans ((but_same s3).trans b4), ?_⟩
        rw [list_take_succ gt, posss_app, List.length_take, Nat.min_eq_left (by omega)]
        show PosIn H'' p ([] :: (posss 1 (ts.take i) ++ ((poss ts[i]).map (fun q => (((1 + i : Nat) : Int)) :: q) ++ [])))
        rw [List.append_nil, show (((1 + i : Nat) : Int)) = 1 + (i : Int) by omega]
        exact hp4
    · rintro σ' H' ⟨x, y, rfl, b, hp⟩
      rw [List.take_length] at hp
      walk_at "rd"
      exact q p H' (b.same (s1.trans s2) np0) np0 hp

theorem all_u_law_positions (T : Tx K mg A) : ∀ N : Nat, FnOk P w K mg base CX0 (N + 1) A.a_u_law_positions A.d_u_law_positions ["term"] (sp_u_law_positions N)
  | 0 => fn_none fun vs H Q E h => by obtain ⟨v, t, _, _, _, hd, _⟩ := h; have := t.dep_pos; omega
  | N + 1 => st_u_law_positions T N (all_u_law_positions T N)
theorem ok_u_law_positions (T : Tx K mg A) : FnOk P w K mg base CX0 61 A.a_u_law_positions A.d_u_law_positions ["term"] (sp_u_law_positions 60) := all_u_law_positions T 60

/-! _law_replace -/
def sp_u_law_replace (N : Nat) : Sp := fun vs H Q _ => ∃ (v w : V) (t u : Tm) (a : Addr) (q : List Int), vs = [v, .ref a, w] ∧ TmIn H t v ∧ TmIn H u w ∧ H a = some (.tup (q.map V.int)) ∧ IsPos q t ∧ q.length < N ∧ t.sz ≤ 100000 ∧ ∀ r H', Same H H' → TmIn H' (rep u q t) r → Q r H'
theorem st_u_law_replace (T : Tx K mg A) (N : Nat) (G_u_law_replace : FnOk P w K mg base CX0 (N + 1) A.a_u_law_replace A.d_u_law_replace ["term", "position", "new"] (sp_u_law_replace N)) : FnOk P w K mg base CX0 (N + 2) A.a_u_law_replace A.d_u_law_replace ["term", "position", "new"] (sp_u_law_replace (N + 1)) := by

  refine T.F_u_law_replace.ok sc_u_law_replace (fun vs H Q E h => ?_) (fun cdv Ar outer s0 H vs Q E hr h => ?_)
  · obtain ⟨v, w, t, u, a, q, rfl, _⟩ := h; rfl
  obtain ⟨v, w, t, u, a, q, rfl, ht, hu', hq, ip, hl, hz, q0⟩ := h
  refine ⟨_, (pss_cons (ps_if (pt_cmpR op_eq (pe_callB (r := rLenS K) j_len (by rfl) T.n_len PySem.boot_len (pa_cons (pv 1) pa_nil)) pe_int (nomark _)) (pss_one (ps_ret (pv 2))) pss_nil)
    (pss_cons (ps_set (i := 3) sc_u_law_replace.nd rfl (Or.inl rfl) (pe_ix (r := rIxT K) ix_tup (pv 1) pe_int (fun _ _ => rfl)))
    (pss_one (ps_ret (pe_op (r := rCatT K) op_catT (pe_op (r := rCatT K) op_catT (pe_slice (r := rSlT K) sl_tup (pv 0) po_none (po_some (pv 3))) (pe_tup (pa_cons (pe_call G_u_law_replace (hr.mono (by omega)) rfl T.m_u_law_replace T.F_u_law_replace.kp T.b_u_law_replace .nil pass0 (pa_cons (pe_ix (r := rIxT K) ix_tup (pv 0) (pv 3) (fun _ _ => rfl)) (pa_cons (pe_slice (r := rSlT K) sl_tup (pv 1) (po_some pe_int) po_none) (pa_cons (pv 2) pa_nil)))) pa_nil))) (pe_slice (r := rSlT K) sl_tup (pv 0) (po_some (pe_op op_add (pv 3) pe_int)) po_none)))))), ?_⟩
  cases q with
  | nil =>
    walk_at "ri"
    exact q0 w H (Same.refl _) hu'
  | cons k q =>
    cases t with
    | var n => exact ip.elim
    | app f ts =>
      obtain ⟨hk1, t, gt, ip⟩ := ip
      obtain ⟨b, vs, rfl, hb, hts⟩ := ht
      obtain ⟨j, rfl⟩ : ∃ j : Nat, k = ((j + 1 : Nat) : Int) := ⟨(k - 1).toNat, by omega⟩
      have ej : (((j + 1 : Nat) : Int) - 1).toNat = j := by omega
      rw [ej] at gt
      have hj : j < ts.length := (List.getElem?_eq_some_iff.mp gt).1
      obtain ⟨v1, gv1, hv1⟩ := hts.get' gt
      have hvl := hts.length
      have hll := Tm.len_le ts
      have hz : 1 + Tm.szs ts ≤ 100000 := hz
      have hst := Tm.sz_arg (List.mem_of_getElem? gt)
      have hq' : H a = some (.tup (.int ((j + 1 : Nat) : Int) :: q.map V.int)) := hq
      walk_at "ri"
      refine ⟨b, _, rfl, SqT.of hb, notLo (k := j + 1) (by rw [List.length_cons]; omega), ?_⟩
      rw [cutLo]
      first | intro p1 n1 | refine fun p1 n1 => ?_
      generalize ehn : upd H p1 _ = H1
      have s1 := J.al_same n1 ehn
      have h1 := J.al_at ehn
      clear ehn
      replace hb := s1 _ _ hb
      have hq1 := s1 _ _ hq'
      walk_at "rd"
      refine ⟨b, _, _, v1, rfl, rfl, SqT.of hb, atI_nat (j := j + 1) (by rw [List.getElem?_cons_succ]; exact gv1), ?_⟩
      walk_at "rd"
      walk_at "sl1"
      first | intro p2 n2 | refine fun p2 n2 => ?_
      generalize ehn : upd H1 p2 _ = H2
      have s2 := J.al_same n2 ehn
      have h2 := J.al_at ehn
      clear ehn
      walk_at "rd"
      have tu2 := tu_same (s1.trans s2)
      refine ⟨v1, w, t, u, p2, q, rfl, hv1.tu tu2, hu'.tu tu2, h2, ip, by rw [List.length_cons] at hl; omega, by omega, fun r H3 s3 hr3 => ?_⟩
      refine ⟨by show 1 ≤ sizeLine; decide, ?_⟩
      first | intro p3 n4 | refine fun p3 n4 => ?_
      generalize ehn : upd H3 p3 _ = H4
      have s4 := J.al_same n4 ehn
      have h4 := J.al_at ehn
      clear ehn
      have tu24 := tu_same (s3.trans s4)
      have h14 := tu24 _ _ (s2 _ _ h1)
      have hb4 := tu24 _ _ (s2 _ _ hb)
      have e1 : (V.str f :: vs).take (j + 1) = .str f :: vs.take j := rfl
      rw [e1] at h14
      refine ⟨p1, p3, _, _, rfl, rfl, SqT.of h14, SqT.of h4, List.cons_ne_nil _ _, ?_, fun z => absurd z (List.cons_ne_nil _ _), fun _ => ?_⟩
      · rw [List.length_cons, List.length_take]
        exact Nat.le_trans (show min j vs.length + 1 + 1 ≤ 100002 by omega) (by decide)
      first | intro p5 n5 | refine fun p5 n5 => ?_
      generalize ehn : upd H4 p5 _ = H5
      have s5 := J.al_same n5 ehn
      have h5 := J.al_at ehn
      clear ehn
      replace hb4 := s5 _ _ hb4
      walk_at "rd"
      have e3 : ((((j + 1 : Nat) : Int)) + 1) = ((j + 2 : Nat) : Int) := by omega
      rw [e3]
      refine ⟨b, _, rfl, SqT.of hb4, notHi (k := j + 2) (by omega) (by rw [List.length_cons]; omega), ?_⟩
      rw [cutHi]
      have e2 : (V.str f :: vs).drop (j + 2) = vs.drop (j + 1) := rfl
      rw [e2]
      first | intro p6 n6 | refine fun p6 n6 => ?_
      generalize ehn : upd H5 p6 _ = H6
      have s6 := J.al_same n6 ehn
      have h6 := J.al_at ehn
      clear ehn
      have tuF : Tu H H4 := tu2.trans tu24
      have h56 := s6 _ _ h5
      have key : ∀ (b0 : Addr) (H7 : Hp), Same H6 H7 → H7 b0 = some (.tup ((.str f :: vs.take j ++ [r]) ++ vs.drop (j + 1))) → Q (.ref b0) H7 := by
        intro b0 H7 s7 h7
        have s47 : Same H4 H7 := s5.trans (s6.trans s7)
        have tu47 := tu_same s47
        refine q0 _ H7 (s1.trans (s2.trans (s3.trans (s4.trans s47)))) ?_
        have er : rep u (((j + 1 : Nat) : Int) :: q) (.app f ts) = .app f (ts.take j ++ [rep u q t] ++ ts.drop (j + 1)) := by
          show Tm.app f (ts.set (((j + 1 : Nat) : Int) - 1).toNat (rep u q (ts.getD (((j + 1 : Nat) : Int) - 1).toNat u))) = _
          rw [ej, List.getD_eq_getElem?_getD, gt, set_cut hj]; rfl
        rw [er]
        refine ⟨b0, vs.take j ++ [r] ++ vs.drop (j + 1), rfl, h7, ?_⟩
        have tu07 := tuF.trans tu47
        exact ((((hts.take j).tu tu07).append (TmsIn.one ((hr3.tu (tu_same s4)).tu tu47)))).append ((hts.drop (j + 1)).tu tu07)
      refine ⟨p5, p6, _, _, rfl, rfl, SqT.of h56, SqT.of h6, List.cons_ne_nil _ _, ?_, fun z => ?_, fun _ => ?_⟩
      · show (V.str f :: vs.take j ++ [r]).length + _ ≤ _
        rw [List.length_append, List.length_cons, List.length_take, List.length_drop]
        exact Nat.le_trans (show min j vs.length + 1 + 1 + (vs.length - (j + 1)) ≤ 200004 by omega) (by decide)
      · refine key p5 H6 (Same.refl _) ?_
        rw [z, List.append_nil]; exact h56
      · first | intro p7 n7 | refine fun p7 n7 => ?_
        generalize ehn : upd H6 p7 _ = H7
        have s7 := J.al_same n7 ehn
        have h7 := J.al_at ehn
        clear ehn
        exact key p7 H7 s7 h7

theorem all_u_law_replace (T : Tx K mg A) : ∀ N : Nat, FnOk P w K mg base CX0 (N + 1) A.a_u_law_replace A.d_u_law_replace ["term", "position", "new"] (sp_u_law_replace N)
  | 0 => fn_none fun vs H Q E h => by obtain ⟨v, w, t, u, a, q, _, _, _, _, _, hl, _⟩ := h; omega
  | N + 1 => st_u_law_replace T N (all_u_law_replace T N)
theorem ok_u_law_replace (T : Tx K mg A) : FnOk P w K mg base CX0 61 A.a_u_law_replace A.d_u_law_replace ["term", "position", "new"] (sp_u_law_replace 60) := all_u_law_replace T 60

/-! _law_subterm -/
def sp_u_law_subterm : Sp := fun vs H Q _ => ∃ (v : V) (t u : Tm) (a : Addr) (q : List Int), vs = [v, .ref a] ∧ TmIn H t v ∧ H a = some (.tup (q.map V.int)) ∧ at? q t = some u ∧ ∀ r H', Same H H' → TmIn H' u r → Q r H'
theorem ok_u_law_subterm (T : Tx K mg A) : FnOk P w K mg base CX0 (1) A.a_u_law_subterm A.d_u_law_subterm ["term", "position"] sp_u_law_subterm := by

  refine T.F_u_law_subterm.ok sc_u_law_subterm (fun vs H Q E h => ?_) (fun cdv Ar outer s0 H vs Q E hr h => ?_)
  · obtain ⟨v, t, u, a, q, rfl, _⟩ := h; rfl
  obtain ⟨v, t, u, a, q, rfl, ht, hq, hu', q0⟩ := h
  refine ⟨_, (pss_cons (ps_for PassesOwn.never rfl (pi_tup (pv 1)) (pg_name (i := 2) sc_u_law_subterm.nd rfl (Or.inl rfl)) (pss_one (ps_set (i := 0) sc_u_law_subterm.nd rfl (Or.inl rfl) (pe_ix (r := rIxT K) ix_tup (pv 0) (pv 2) (fun _ _ => rfl)))))
    (pss_one (ps_ret (pv 0)))), ?_⟩
  refine ⟨_, rfl, ?_⟩
  refine ⟨_, rfl, ⟨_, SqT.of hq⟩, for_tup (xs := q.map V.int) (fun i σ' H' => ∃ v1 t1 x, σ' = [some v1, some (.ref a), x] ∧ at? (q.take i) t = some t1 ∧ TmIn H' t1 v1 ∧ Same H H') ?_ ?_ ?_ ?_⟩
  · exact ⟨v, t, none, rfl, rfl, ht, Same.refl _⟩
  · rintro i σ' H' hi ⟨v1, t1, x, rfl, h1, h2, s1⟩
    exact SqT.of (s1 _ _ hq)
  · rintro i y σ' H' hi ⟨v1, t1, x, rfl, h1, h2, s1⟩
    obtain ⟨k, gk, rfl⟩ := map_get hi
    have hi' : i < q.length := (List.getElem?_eq_some_iff.mp gk).1
    obtain ⟨w, hw⟩ := isPos_take ((isPos_at q t).mpr ⟨u, hu'⟩) (i + 1)
    have hw' := hw
    rw [at_step gk h1] at hw'
    obtain ⟨f, ts, c, rfl, k1, k2⟩ := isPos_one.mp ((isPos_at [k] t1).mpr ⟨w, hw'⟩)
    rw [at_cons_app, if_pos k1, k2] at hw'
    cases (show some c = some w from hw')
    obtain ⟨b, vs, rfl, hb, hts⟩ := h2
    obtain ⟨v2, gv2, hv2⟩ := hts.get' k2
    obtain ⟨j, rfl⟩ : ∃ j : Nat, k = ((j + 1 : Nat) : Int) := ⟨(k - 1).toNat, by omega⟩
    have ej : (((j + 1 : Nat) : Int) - 1).toNat = j := by omega
    rw [ej] at gv2
    walk_at "rd"
    refine ⟨b, _, _, v2, rfl, rfl, SqT.of hb, atI_nat (j := j + 1) (by rw [List.getElem?_cons_succ]; exact gv2), ?_⟩
    exact ⟨_, _, _, rfl, hw, hv2, s1⟩
  · rintro σ' H' ⟨v1, t1, x, rfl, h1, h2, s1⟩
    rw [List.length_map, List.take_length, hu'] at h1
    cases h1
    walk_at "rd"
    exact q0 _ _ s1 h2

/-! _spine -/
def SpIn (H : Hp) (r : Addr) (t : Tm) (q : List Int) (n : Nat) : Prop := ∃ ws : List V, H r = some (.lst ws) ∧ ws.length = n + 1 ∧ ∀ i, i ≤ n → ∃ u w, ws[i]? = some w ∧ at? (q.take i) t = some u ∧ TmIn H u w
theorem SpIn.push {H H' : Hp} {r : Addr} {t : Tm} {q : List Int} {n : Nat} {ws : List V} (hl : ws.length = n + 1) (hi : ∀ i, i ≤ n → ∃ u w, ws[i]? = some w ∧ at? (q.take i) t = some u ∧ TmIn H u w) {x : V} {c : Tm} (hc : at? (q.take (n + 1)) t = some c) (hx : TmIn H' c x) (tu : Tu H H') (h : H' r = some (.lst (ws ++ [x]))) : SpIn H' r t q (n + 1) := by
  refine ⟨ws ++ [x], h, by rw [List.length_append, hl]; rfl, fun i hi2 => ?_⟩
  by_cases e : i ≤ n
  · obtain ⟨u, w, h1, h2, h3⟩ := hi i e
    exact ⟨u, w, by rw [List.getElem?_append_left (by omega)]; exact h1, h2, h3.tu tu⟩
  · have : i = n + 1 := by omega
    subst this
    exact ⟨c, x, by rw [List.getElem?_append_right (by omega), hl, Nat.sub_self]; rfl, hc, hx⟩
def sp_u_spine (C : Addr) : Sp := fun vs H Q E => ∃ (v : V) (t : Tm) (a : Addr) (q : List Int), vs = [v, .ref a] ∧ TmIn H t v ∧ H a = some (.tup (q.map V.int)) ∧ t.sz ≤ 100000 ∧ q.length ≤ 100000 ∧ (IsPos q t → ∀ r H', Same H H' → H r = none → SpIn H' r t q q.length → Q (.ref r) H') ∧ (¬ IsPos q t → ∀ H', Same H H' → E (.ref C) none H')
theorem ok_u_spine (T : Tx K mg A) : FnOk P w K mg base (L2.CX P w) 1 A.a_u_spine A.d_u_spine ["term", "position"] (sp_u_spine A.c_NoPosition) := by

  refine T.F_u_spine.okX sc_u_spine (fun vs H Q E h => ?_) (fun cdv Ar outer s0 H vs Q E hr h => ?_)
  · obtain ⟨v, t, a, q, rfl, _⟩ := h; rfl
  obtain ⟨v, t, a, q, rfl, ht, hq, hz, hl, q1, q2⟩ := h
  refine ⟨_, (pss_cons (ps_set (i := 2) sc_u_spine.nd rfl (Or.inl rfl) (pv 0))
    (pss_cons (ps_set (i := 3) sc_u_spine.nd rfl (Or.inl rfl) (pe_lst (pa_cons (pv 2) pa_nil)))
    (pss_cons (ps_for (passes_of rfl) rfl (pi_tup (pv 1)) (pg_name (i := 4) sc_u_spine.nd rfl (Or.inl rfl)) (pss_cons (ps_if (PW.pt (pw_or (pt_val (pe_callB (r := rIsi K) call_isi (by rfl) T.n_isinstance boot_isinstance (pa_cons (pv 2) (pa_cons (pe_bltn (v := .ty "int") (by rfl) T.n_int boot_int rfl) pa_nil)))) (pw_or (pt_cmpR op_lt (pv 4) pe_int (nomark _)) (pw_or1 (pt_cmpR op_ge (pv 4) (pe_callB (r := rLenS K) j_len (by rfl) T.n_len PySem.boot_len (pa_cons (pv 2) pa_nil)) (nomark _)))))) (pss_one (ps_raise rfl (takes_of rfl rfl rfl rfl) (pmk_own0 PySem.F.excBase_ValueError T.E_NoPosition.xC T.E_NoPosition.gC T.E_NoPosition.kC (raises_own T.E_NoPosition.bC T.E_NoPosition.tC) rfl))) pss_nil)
    (pss_cons (ps_set (i := 2) sc_u_spine.nd rfl (Or.inl rfl) (pe_ix (r := rIxT K) ix_tup (pv 2) (pv 4) (fun _ _ => rfl)))
    (pss_one (ps_expr (pe_bm PySem.F.plainAttrs_list PySem.F.slot_list_append PySem.F.type_list_append mt_append (pv 3) (pa_cons (pv 2) pa_nil)))))))
    (pss_one (ps_ret (pv 3)))))), ?_⟩
  walk_at "rd"
  refine ⟨show 1 ≤ sizeLine by decide, ?_⟩
  first | intro l n1 | refine fun l n1 => ?_
  generalize ehn : upd H l _ = H1
  have s1 := J.al_same n1 ehn
  have h1 := J.al_at ehn
  clear ehn
  have hq1 := s1 _ _ hq
  have hla : l ≠ a := fun z => by rw [z, hq] at n1; cases n1
  have h1t := lst_not_tup h1
  walk_at "rd"
  refine ⟨⟨_, SqT.of hq1⟩, for_tup (xs := q.map V.int) (fun i σ' H' => ∃ pv u x, σ' = [some v, some (.ref a), some pv, some (.ref l), x] ∧ at? (q.take i) t = some u ∧ TmIn H' u pv ∧ SpIn H' l t q i ∧ But l H1 H') ?_ ?_ ?_ ?_⟩
  · exact ⟨v, t, none, rfl, rfl, ht.tu (tu_same s1), ⟨[v], h1, rfl, fun i hi => ⟨t, v, by rw [show i = 0 by omega]; rfl, by rw [show i = 0 by omega]; rfl, ht.tu (tu_same s1)⟩⟩, But.refl _ _⟩
  · rintro i σ' H' hi ⟨pv, u, x, rfl, hu1, hu2, hs, b⟩
    exact SqT.of (b _ _ hq1 (Ne.symm hla))
  · rintro i y σ' H' hi ⟨pv, u, x, rfl, hu1, hu2, hs, b⟩
    obtain ⟨k, gk, rfl⟩ := map_get hi
    have hi' : i < q.length := (List.getElem?_eq_some_iff.mp gk).1
    have hsz := at_sz _ _ _ hu1
    have bad : ¬ IsPos [k] u → ¬ IsPos q t := fun h z => by
      obtain ⟨c, hc⟩ := isPos_take z (i + 1)
      rw [at_step gk hu1] at hc
      exact h ((isPos_at [k] u).mpr ⟨c, hc⟩)
    have kk : Same H H' := b.same s1 n1
    cases u with
    | var n =>
      cases (show pv = .int n from hu2)
      walk_at "ri"
      exact q2 (bad fun z => z.elim) H' kk
    | app f ts =>
      obtain ⟨c, vs, rfl, hc, hts⟩ := hu2
      have hvl := hts.length
      walk_at "ri"
      refine ifD (fun e => ?_) (fun e1 => ?_)
      · walk_at "rd"
        exact q2 (bad fun z => by obtain ⟨_, _, _, _, h, _⟩ := isPos_one.mp z; omega) H' kk
      · walk_at "ri"
        have tl := Tm.len_le ts
        refine ifD (fun e => ?_) (fun e2 => ?_)
        · walk_at "rd"
          have e : ((vs.length + 1 : Nat) : Int) ≤ k := e
          refine q2 (bad fun z => ?_) H' kk
          obtain ⟨_, _, _, e0, h, h2⟩ := isPos_one.mp z
          cases e0
          have := (List.getElem?_eq_some_iff.mp h2).1
          omega
        · walk_at "rd"
          have e2 : ¬ ((vs.length + 1 : Nat) : Int) ≤ k := e2
          obtain ⟨j, rfl⟩ : ∃ j : Nat, k = ((j + 1 : Nat) : Int) := ⟨(k - 1).toNat, by omega⟩
          have ej : (((j + 1 : Nat) : Int) - 1).toNat = j := by omega
          have hj : j < ts.length := by omega
          have gj := List.getElem?_eq_getElem hj
          obtain ⟨v2, gv2, hv2⟩ := hts.get' gj
          refine ⟨c, _, _, v2, rfl, rfl, SqT.of hc, atI_nat (j := j + 1) (by rw [List.getElem?_cons_succ]; exact gv2), ?_⟩
          have hn : at? (q.take (i + 1)) t = some ts[j] := by
            rw [at_step gk hu1, at_cons_app, if_pos (by omega), ej, gj]; rfl
          obtain ⟨ws, w1, w2, w3⟩ := hs
          walk_at "rd"
          refine ⟨.inl ⟨rfl, _, SqL.of w1⟩, ?_⟩
          walk_at "rd"
          refine ⟨l, ws, v2, rfl, rfl, w1, Nat.lt_of_le_of_lt (show ws.length ≤ 100000 by omega) (by decide), ?_⟩
          generalize ehn : upd H' l _ = H2
          have b2 := J.al_but ehn
          have h2 := J.al_at ehn
          clear ehn
          have tu2 : Tu H' H2 := but_tu b2 (lst_not_tup w1)
          exact ⟨_, _, _, rfl, hn, hv2.tu tu2, SpIn.push w2 w3 hn (hv2.tu tu2) tu2 h2, b.trans b2⟩
  · rintro σ' H' ⟨pv, u, x, rfl, hu1, hu2, hs, b⟩
    rw [List.length_map] at hs hu1
    rw [List.take_length] at hu1
    walk_at "rd"
    exact q1 ((isPos_at q t).mpr ⟨u, hu1⟩) l H' (b.same s1 n1) n1 hs

/-! replace -/
def sp_replace (C : Addr) : Sp := fun vs H Q E => ∃ (v w : V) (t u : Tm) (a : Addr) (q : List Int), vs = [v, .ref a, w] ∧ TmIn H t v ∧ TmIn H u w ∧ H a = some (.tup (q.map V.int)) ∧ t.sz ≤ 100000 ∧ q.length ≤ 100000 ∧ (IsPos q t → ∀ r H', Same H H' → TmIn H' (rep u q t) r → Q r H') ∧ (¬ IsPos q t → ∀ H', Same H H' → E (.ref C) none H')
theorem ok_replace (T : Tx K mg A) : FnOk P w K mg base (L2.CX P w) 2 A.a_replace A.d_replace ["term", "position", "new"] (sp_replace A.c_NoPosition) := by
  have G_u_spine := ok_u_spine (P := P) (w := w) (base := base) T
  refine T.F_replace.okX sc_replace (fun vs H Q E h => ?_) (fun cdv Ar outer s0 H vs Q E hr h => ?_)
  · obtain ⟨v, w, t, u, a, q, rfl, _⟩ := h; rfl
  obtain ⟨v, w, t, u, a, q, rfl, ht, hu', hq, hz, hl, q1, q2⟩ := h
  refine ⟨_, (pss_cons (ps_set (i := 3) sc_replace.nd rfl (Or.inl rfl) (pe_call G_u_spine (hr.mono (by omega)) rfl T.m_u_spine T.F_u_spine.kp T.b_u_spine .nil (passes_call (takes_of rfl rfl rfl rfl) fun _ _ _ _ h => h) (pa_cons (pv 0) (pa_cons (pv 1) pa_nil))))
    (pss_cons (ps_set (i := 4) sc_replace.nd rfl (Or.inl rfl) (pv 2))
    (pss_cons (ps_for (passes_of rfl) rfl (pi_range3 rfl T.n_range (pa_cons (pe_op op_sub (pe_callB (r := rLenS K) j_len (by rfl) T.n_len PySem.boot_len (pa_cons (pv 1) pa_nil)) pe_int) (pa_cons (pe_un un_neg pe_int) (pa_cons (pe_un un_neg pe_int) pa_nil)))) (pg_name (i := 5) sc_replace.nd rfl (Or.inl rfl)) (pss_cons (ps_set (i := 6) sc_replace.nd rfl (Or.inl rfl) (pe_ix (r := rIxL K) ix_list (pv 3) (pv 5) (fun _ _ => rfl)))
    (pss_cons (ps_set (i := 7) sc_replace.nd rfl (Or.inl rfl) (pe_ix (r := rIxT K) ix_tup (pv 1) (pv 5) (fun _ _ => rfl)))
    (pss_one (ps_set (i := 4) sc_replace.nd rfl (Or.inl rfl) (pe_op (r := rCatT K) op_catT (pe_op (r := rCatT K) op_catT (pe_slice (r := rSlT K) sl_tup (pv 6) po_none (po_some (pv 7))) (pe_tup (pa_cons (pv 4) pa_nil))) (pe_slice (r := rSlT K) sl_tup (pv 6) (po_some (pe_op op_add (pv 7) pe_int)) po_none)))))))
    (pss_one (ps_ret (pv 4)))))), ?_⟩
  walk_at "rd"
  refine ⟨v, t, a, q, rfl, ht, hq, hz, hl, fun ip r H1 s1 n1 hs => ?_, q2⟩
  obtain ⟨ws, w1, w2, w3⟩ := hs
  have hq1 := s1 _ _ hq
  walk_at "rd"
  rw [List.length_map]
  refine ⟨_, _, -1, q.length, rfl, down_ok (by omega), L2.for_rangeC (lo := (q.length : Int) - 1) (c := -1) (n := q.length) (fun j σ' H' => ∃ res x5 x6 x7 c, σ' = [some v, some (.ref a), some w, some (.ref r), some res, x5, x6, x7] ∧ at? (q.take (q.length - j)) t = some c ∧ TmIn H' (rep u (q.drop (q.length - j)) c) res ∧ Same H1 H') ?_ ?_ ?_⟩
  · obtain ⟨c, hc⟩ := (isPos_at q t).mp ip
    exact ⟨w, none, none, none, c, rfl, by rw [Nat.sub_zero, List.take_length]; exact hc, by rw [Nat.sub_zero, List.drop_length]; exact hu'.tu (tu_same s1), Same.refl _⟩
  · rintro j σ' H2 hj ⟨res, x5, x6, x7, c, rfl, hc, hr2, s2⟩
    obtain ⟨L, hL⟩ : ∃ L : Nat, q.length - j = L + 1 := ⟨q.length - j - 1, by omega⟩
    have hL2 : q.length - (j + 1) = L := by omega
    rw [hL] at hc hr2
    have eL : (q.length : Int) - 1 + (j : Int) * (-1) = (L : Int) := by omega
    rw [hL2, eL]
    have hLq : L < q.length := by omega
    have gk := List.getElem?_eq_getElem hLq
    generalize q[L] = k at gk
    obtain ⟨u0, w0, e1, e2, e3⟩ := w3 L (by omega)
    obtain ⟨f, ts, rfl, k1, k2, e4⟩ := rep_step (u := u) gk e2 hc
    obtain ⟨b, vs, rfl, hb, hts⟩ := e3.tu (tu_same s2)
    obtain ⟨i, rfl⟩ : ∃ i : Nat, k = ((i + 1 : Nat) : Int) := ⟨(k - 1).toNat, by omega⟩
    have ei : (((i + 1 : Nat) : Int) - 1).toNat = i := by omega
    rw [ei] at k2 e4
    have hi : i < ts.length := (List.getElem?_eq_some_iff.mp k2).1
    have hvl := hts.length
    have hll := Tm.len_le ts
    have hsz := at_sz _ _ _ e2
    have hsz1 : 1 + Tm.szs ts ≤ t.sz := hsz.1
    have gq : (q.map V.int)[L]? = some (.int ((i + 1 : Nat) : Int)) := by rw [List.getElem?_map, gk]; rfl
    walk_at "rd"
    refine ⟨r, _, _, _, rfl, rfl, SqL.of (s2 _ _ w1), atI_nat e1, ?_⟩
    walk_at "rd"
    refine ⟨a, _, _, _, rfl, rfl, SqT.of (s2 _ _ hq1), atI_nat gq, ?_⟩
    walk_at "rd"
    refine ⟨b, _, rfl, SqT.of hb, notLo (k := i + 1) (by rw [List.length_cons]; omega), ?_⟩
    rw [cutLo]
    first | intro p1 n3 | refine fun p1 n3 => ?_
    generalize ehn : upd H2 p1 _ = H3
    have s3 := J.al_same n3 ehn
    have h3 := J.al_at ehn
    clear ehn
    walk_at "rd"
    refine ⟨by show 1 ≤ sizeLine; decide, ?_⟩
    first | intro p3 n4 | refine fun p3 n4 => ?_
    generalize ehn : upd H3 p3 _ = H4
    have s4 := J.al_same n4 ehn
    have h4 := J.al_at ehn
    clear ehn
    have h14 := s4 _ _ h3
    have hb4 := s4 _ _ (s3 _ _ hb)
    have ee1 : (V.str f :: vs).take (i + 1) = .str f :: vs.take i := rfl
    rw [ee1] at h14
    refine ⟨p1, p3, _, _, rfl, rfl, SqT.of h14, SqT.of h4, List.cons_ne_nil _ _, ?_, fun z => absurd z (List.cons_ne_nil _ _), fun _ => ?_⟩
    · rw [List.length_cons, List.length_take]
      exact Nat.le_trans (show min i vs.length + 1 + 1 ≤ 100002 by omega) (by decide)
    first | intro p5 n5 | refine fun p5 n5 => ?_
    generalize ehn : upd H4 p5 _ = H5
    have s5 := J.al_same n5 ehn
    have h5 := J.al_at ehn
    clear ehn
    replace hb4 := s5 _ _ hb4
    walk_at "rd"
    have ee3 : ((((i + 1 : Nat) : Int)) + 1) = ((i + 2 : Nat) : Int) := by omega
    rw [ee3]
    refine ⟨b, _, rfl, SqT.of hb4, notHi (k := i + 2) (by omega) (by rw [List.length_cons]; omega), ?_⟩
    rw [cutHi]
    have ee2 : (V.str f :: vs).drop (i + 2) = vs.drop (i + 1) := rfl
    rw [ee2]
    first | intro p6 n6 | refine fun p6 n6 => ?_
    generalize ehn : upd H5 p6 _ = H6
    have s6 := J.al_same n6 ehn
    have h6 := J.al_at ehn
    clear ehn
    have h56 := s6 _ _ h5
    have s26 : Same H2 H6 := s3.trans (s4.trans (s5.trans s6))
    have fin : ∀ (b0 : Addr) (H7 : Hp), Same H6 H7 → H7 b0 = some (.tup ((.str f :: vs.take i ++ [res]) ++ vs.drop (i + 1))) → TmIn H7 (rep u (q.drop L) (.app f ts)) (.ref b0) := by
      intro b0 H7 s7 h7
      have tu := tu_same (s26.trans s7)
      rw [e4, set_cut hi]
      exact ⟨b0, vs.take i ++ [res] ++ vs.drop (i + 1), rfl, h7, (((hts.take i).tu tu).append (TmsIn.one (hr2.tu tu))).append ((hts.drop (i + 1)).tu tu)⟩
    refine ⟨p5, p6, _, _, rfl, rfl, SqT.of h56, SqT.of h6, List.cons_ne_nil _ _, ?_, fun z => ?_, fun _ => ?_⟩
    · show (V.str f :: vs.take i ++ [res]).length + _ ≤ _
      rw [List.length_append, List.length_cons, List.length_take, List.length_drop]
      exact Nat.le_trans (show min i vs.length + 1 + 1 + (vs.length - (i + 1)) ≤ 200004 by omega) (by decide)
    · exact ⟨_, _, _, _, _, rfl, e2, fin p5 H6 (Same.refl _) (by rw [z, List.append_nil]; exact h56), s2.trans s26⟩
    · first | intro p7 n7 | refine fun p7 n7 => ?_
      generalize ehn : upd H6 p7 _ = H7
      have s7 := J.al_same n7 ehn
      have h7 := J.al_at ehn
      clear ehn
      exact ⟨_, _, _, _, _, rfl, e2, fin p7 H7 s7 h7, s2.trans (s26.trans s7)⟩
  · rintro σ' H2 ⟨res, x5, x6, x7, c, rfl, hc, hr2, s2⟩
    rw [Nat.sub_self] at hc hr2
    cases (show some t = some c from hc)
    walk_at "rd"
    exact q1 ip _ _ (s1.trans s2) hr2

/-! _law_refused -/
def sp_u_law_refused : Sp := fun vs H Q _ => ∃ (v w : V) (t u : Tm) (a : Addr) (q : List Int), vs = [v, .ref a, w] ∧ TmIn H t v ∧ TmIn H u w ∧ H a = some (.tup (q.map V.int)) ∧ t.sz ≤ 100000 ∧ q.length ≤ 100000 ∧ ¬ IsPos q t ∧ ∀ H', Same H H' → Q (.bl true) H'
theorem ok_u_law_refused (T : Tx K mg A) : FnOk P w K mg base CX0 (3) A.a_u_law_refused A.d_u_law_refused ["term", "position", "new"] sp_u_law_refused := by
  have G_replace := ok_replace (P := P) (w := w) (base := base) T
  refine T.F_u_law_refused.ok sc_u_law_refused (fun vs H Q E h => ?_) (fun cdv Ar outer s0 H vs Q E hr h => ?_)
  · obtain ⟨v, w, t, u, a, q, rfl, _⟩ := h; rfl
  obtain ⟨v, w, t, u, a, q, rfl, ht, hu', hq, hz, hl, ip, q0⟩ := h
  refine ⟨_, (pss_cons (ps_try_only rfl rfl ⟨rfl, by decide, .inl T.E_NoPosition.gC⟩ takes0 (fun W pn xe tk _ => (pss_one (ps_expr (pe_callS G_replace (hr.mono (by omega)) rfl T.m_replace T.F_replace.kp T.b_replace (fun σ => passAt tk σ) (pa_cons (pv 0) (pa_cons (pv 1) (pa_cons (pv 2) pa_nil))))))) (fun ea oe cls d pn hz hf => (pss_one (ps_ret pe_bl))))
    (pss_one (ps_ret pe_bl))), ?_⟩
  walk_at "rd"
  refine ⟨v, w, t, u, a, q, rfl, ht, hu', hq, hz, hl, fun z => absurd z ip, fun _ H' s' => ?_⟩
  refine ⟨true, T.E_NoPosition.eC, fun _ a ha => ?_, fun z => nomatch z⟩
  exact q0 _ s'

/-! _law_same -/
def sp_u_law_same (N : Nat) : Sp := fun vs H Q _ => ∃ (v u : V) (t r : Tm), vs = [v, u] ∧ TmIn H t v ∧ TmIn H r u ∧ t.sz ≤ 100000 ∧ t.dep ≤ N ∧ ∀ b H', Same H H' → (b = true ↔ t = r) → Q (.bl b) H'
theorem st_u_law_same (T : Tx K mg A) (N : Nat) (G_u_law_same : FnOk P w K mg base CX0 (N + 1) A.a_u_law_same A.d_u_law_same ["first", "second"] (sp_u_law_same N)) : FnOk P w K mg base CX0 (N + 2) A.a_u_law_same A.d_u_law_same ["first", "second"] (sp_u_law_same (N + 1)) := by

  refine T.F_u_law_same.ok sc_u_law_same (fun vs H Q E h => ?_) (fun cdv Ar outer s0 H vs Q E hr h => ?_)
  · obtain ⟨v, u, t, r, rfl, _⟩ := h; rfl
  obtain ⟨v, u, t, r, rfl, ht, hr', hz, hd, q⟩ := h
  refine ⟨_, (pss_cons (ps_if (PW.pt (pw_or (pt_val (pe_callB (r := rIsi K) call_isi (by rfl) T.n_isinstance boot_isinstance (pa_cons (pv 0) (pa_cons (pe_bltn (v := .ty "bool") (by rfl) T.n_bool boot_bool rfl) pa_nil)))) (pw_or1 (pt_val (pe_callB (r := rIsi K) call_isi (by rfl) T.n_isinstance boot_isinstance (pa_cons (pv 1) (pa_cons (pe_bltn (v := .ty "bool") (by rfl) T.n_bool boot_bool rfl) pa_nil))))))) (pss_one (ps_ret pe_bl)) pss_nil)
    (pss_cons (ps_if (PW.pt (pw_or (pt_val (pe_callB (r := rIsi K) call_isi (by rfl) T.n_isinstance boot_isinstance (pa_cons (pv 0) (pa_cons (pe_bltn (v := .ty "int") (by rfl) T.n_int boot_int rfl) pa_nil)))) (pw_or1 (pt_val (pe_callB (r := rIsi K) call_isi (by rfl) T.n_isinstance boot_isinstance (pa_cons (pv 1) (pa_cons (pe_bltn (v := .ty "int") (by rfl) T.n_int boot_int rfl) pa_nil))))))) (pss_one (ps_ret (pe_and (pe_callB (r := rIsi K) call_isi (by rfl) T.n_isinstance boot_isinstance (pa_cons (pv 0) (pa_cons (pe_bltn (v := .ty "int") (by rfl) T.n_int boot_int rfl) pa_nil))) (pe_and (pe_callB (r := rIsi K) call_isi (by rfl) T.n_isinstance boot_isinstance (pa_cons (pv 1) (pa_cons (pe_bltn (v := .ty "int") (by rfl) T.n_int boot_int rfl) pa_nil))) (pe_one (pe_cmpR op_eq (pv 0) (pv 1) (nomark _))))))) pss_nil)
    (pss_cons (ps_if (PW.pt (pw_or (pt_not (pt_val (pe_callB (r := rIsi K) call_isi (by rfl) T.n_isinstance boot_isinstance (pa_cons (pv 0) (pa_cons (pe_bltn (v := .ty "tuple") (by rfl) T.n_tuple boot_tuple rfl) pa_nil))))) (pw_or (pt_not (pt_val (pe_callB (r := rIsi K) call_isi (by rfl) T.n_isinstance boot_isinstance (pa_cons (pv 1) (pa_cons (pe_bltn (v := .ty "tuple") (by rfl) T.n_tuple boot_tuple rfl) pa_nil))))) (pw_or1 (pt_cmpR op_ne (pe_callB (r := rLenS K) j_len (by rfl) T.n_len PySem.boot_len (pa_cons (pv 0) pa_nil)) (pe_callB (r := rLenS K) j_len (by rfl) T.n_len PySem.boot_len (pa_cons (pv 1) pa_nil)) (nomark _)))))) (pss_one (ps_ret pe_bl)) pss_nil)
    (pss_cons (ps_if (PW.pt (pw_or (pt_cmpR op_eq (pe_callB (r := rLenS K) j_len (by rfl) T.n_len PySem.boot_len (pa_cons (pv 0) pa_nil)) pe_int (nomark _)) (pw_or (pt_not (pt_val (pe_callB (r := rIsi K) call_isi (by rfl) T.n_isinstance boot_isinstance (pa_cons (pe_ix (r := rIxT K) ix_tup (pv 0) pe_int (fun _ _ => rfl)) (pa_cons (pe_bltn (v := .ty "str") (by rfl) T.n_str boot_str rfl) pa_nil))))) (pw_or1 (pt_cmpR op_ne (pe_ix (r := rIxT K) ix_tup (pv 0) pe_int (fun _ _ => rfl)) (pe_ix (r := rIxT K) ix_tup (pv 1) pe_int (fun _ _ => rfl)) (nomark _)))))) (pss_one (ps_ret pe_bl)) pss_nil)
    (pss_cons (ps_for PassesOwn.never rfl (pi_range2 rfl T.n_range (pa_cons pe_int (pa_cons (pe_callB (r := rLenS K) j_len (by rfl) T.n_len PySem.boot_len (pa_cons (pv 0) pa_nil)) pa_nil))) (pg_name (i := 2) sc_u_law_same.nd rfl (Or.inl rfl)) (pss_one (ps_if (pt_not (pt_val (pe_call G_u_law_same (hr.mono (by omega)) rfl T.m_u_law_same T.F_u_law_same.kp T.b_u_law_same .nil pass0 (pa_cons (pe_ix (r := rIxT K) ix_tup (pv 0) (pv 2) (fun _ _ => rfl)) (pa_cons (pe_ix (r := rIxT K) ix_tup (pv 1) (pv 2) (fun _ _ => rfl)) pa_nil))))) (pss_one (ps_ret pe_bl)) pss_nil)))
    (pss_one (ps_ret pe_bl))))))), ?_⟩
  cases t with
  | var n =>
    cases (show v = .int n from ht)
    cases r with
    | var m =>
      cases (show u = .int m from hr')
      walk_at "ri"
      refine q _ H (Same.refl _) ?_
      rw [decide_eq_true_iff]
      exact ⟨fun e => by injection e with e; rw [e], fun e => by injection e with e; rw [e]⟩
    | app g rs =>
      obtain ⟨b, ws, rfl, hb, hrs⟩ := hr'
      walk_at "ri"
      exact q _ H (Same.refl _) ⟨(fun e => nomatch e), (fun e => nomatch e)⟩
  | app f ts =>
    obtain ⟨a, vs, rfl, ha, hts⟩ := ht
    cases r with
    | var m =>
      cases (show u = .int m from hr')
      walk_at "ri"
      exact q _ H (Same.refl _) ⟨(fun e => nomatch e), (fun e => nomatch e)⟩
    | app g rs =>
      obtain ⟨b, ws, rfl, hb, hrs⟩ := hr'
      have l1 := hts.length
      have l2 := hrs.length
      walk_at "ri"
      refine ifNe (fun e => ?_) (fun e => ?_)
      · walk_at "rd"
        refine q _ H (Same.refl _) ⟨(fun z => nomatch z), fun z => ?_⟩
        injection z with _ z
        have e : ((vs.length + 1 : Nat) : Int) ≠ ((ws.length + 1 : Nat) : Int) := e
        rw [z] at l1
        exact absurd (by rw [l1, l2]) e
      · have e : ((vs.length + 1 : Nat) : Int) = ((ws.length + 1 : Nat) : Int) := e
        have el : ts.length = rs.length := by omega
        walk_at "ri"
        refine ifNeS (fun e1 => ?_) (fun e1 => ?_)
        · walk_at "rd"
          refine q _ H (Same.refl _) ⟨(fun z => nomatch z), fun z => ?_⟩
          injection z with z _
          exact absurd z e1
        · subst e1
          have hz : 1 + Tm.szs ts ≤ 100000 := hz
          have hll := Tm.len_le ts
          walk_at "rd"
          refine ⟨1, _, rfl, ⟨by decide, by decide, ?_, ?_⟩, ?_⟩
          · show -(2 ^ 62) ≤ ((vs.length + 1 : Nat) : Int); omega
          · show ((vs.length + 1 : Nat) : Int) < 2 ^ 62; omega
          have en : (((V.str f :: vs).length : Int) - 1).toNat = ts.length := by
            show (((vs.length + 1 : Nat) : Int) - 1).toNat = _
            omega
          rw [en]
          refine for_range (lo := 1) (n := ts.length) (fun i σ' H' => ∃ x, σ' = [some (.ref a), some (.ref b), x] ∧ Same H H' ∧ ts.take i = rs.take i) ?_ ?_ ?_
          · exact ⟨none, rfl, Same.refl _, rfl⟩
          · rintro i σ' H' hi ⟨x, rfl, s, ei⟩
            obtain ⟨v1, gv1, hv1⟩ := hts.get' (List.getElem?_eq_getElem hi)
            obtain ⟨v2, gv2, hv2⟩ := hrs.get' (List.getElem?_eq_getElem (l := rs) (i := i) (by omega))
            have mt : ts[i] ∈ ts := List.getElem_mem hi
            have := Tm.sz_arg mt
            have e1 : (1 : Int) + (i : Int) = ((i + 1 : Nat) : Int) := by omega
            have gt1 : atI (V.str f :: vs) ((1 : Int) + (i : Int)) = some v1 := by rw [e1]; exact atI_nat (j := i + 1) (by rw [List.getElem?_cons_succ]; exact gv1)
            have gt2 : atI (V.str f :: ws) ((1 : Int) + (i : Int)) = some v2 := by rw [e1]; exact atI_nat (j := i + 1) (by rw [List.getElem?_cons_succ]; exact gv2)
            replace ha := s _ _ ha
            replace hb := s _ _ hb
            walk_at "rd"
            refine ⟨v1, v2, _, _, rfl, hv1.tu (tu_same s), hv2.tu (tu_same s), by omega, TmIn.dep_arg hd mt, fun b1 H1 s1 hb1 => ?_⟩
            walk_at "rd"
            refine ifNB (fun z => ?_) (fun z => ?_)
            · walk_at "rd"
              refine q _ H1 (s.trans s1) ⟨(fun w => nomatch w), fun w => ?_⟩
              injection w with _ w
              subst w
              rw [z] at hb1
              exact nomatch hb1.mpr rfl
            · refine ⟨_, rfl, s.trans s1, ?_⟩
              have := hb1.mp z
              rw [list_take_succ (List.getElem?_eq_getElem hi), list_take_succ (List.getElem?_eq_getElem (l := rs) (i := i) (by omega)), ei, this]
          · rintro σ' H' ⟨x, rfl, s, ei⟩
            walk_at "rd"
            refine q _ H' s ⟨fun _ => ?_, fun _ => rfl⟩
            rw [List.take_length, el, List.take_length] at ei
            rw [ei]

theorem all_u_law_same (T : Tx K mg A) : ∀ N : Nat, FnOk P w K mg base CX0 (N + 1) A.a_u_law_same A.d_u_law_same ["first", "second"] (sp_u_law_same N)
  | 0 => fn_none fun vs H Q E h => by obtain ⟨v, u, t, r, _, _, _, _, hd, _⟩ := h; have := t.dep_pos; omega
  | N + 1 => st_u_law_same T N (all_u_law_same T N)
theorem ok_u_law_same (T : Tx K mg A) : FnOk P w K mg base CX0 61 A.a_u_law_same A.d_u_law_same ["first", "second"] (sp_u_law_same 60) := all_u_law_same T 60

/-! law -/
def sp_law (K : PySem.W.Frag) : Sp := fun vs H Q _ => ∃ (a : Addr) (ns : List Int), vs = [.ref a] ∧ SqL K H a (ns.map V.int) ∧ ns.length ≤ 63 ∧ ∀ H', Q (.bl true) H'
theorem ok_law (T : Tx K mg A) : FnOk P w K mg base CX0 70 A.a_law A.d_law ["script"] (sp_law K) := by
  have G_replace := ok_replace (P := P) (w := w) (base := base) T
  have G_u_law_draw := ok_u_law_draw (P := P) (w := w) (base := base) T
  have G_u_law_operations := ok_u_law_operations (P := P) (w := w) (base := base) T
  have G_u_law_positions := ok_u_law_positions (P := P) (w := w) (base := base) T
  have G_u_law_refused := ok_u_law_refused (P := P) (w := w) (base := base) T
  have G_u_law_replace := ok_u_law_replace (P := P) (w := w) (base := base) T
  have G_u_law_same := ok_u_law_same (P := P) (w := w) (base := base) T
  have G_u_law_state := ok_u_law_state (P := P) (w := w) (base := base) T
  have G_u_law_subterm := ok_u_law_subterm (P := P) (w := w) (base := base) T
  have G_u_law_tall := ok_u_law_tall (P := P) (w := w) (base := base) T
  have G_u_law_term := ok_u_law_term (P := P) (w := w) (base := base) T
  refine T.F_law.ok sc_law (fun vs H Q E h => ?_) (fun cdv Ar outer s0 H vs Q E hr h => ?_)
  · obtain ⟨a, ns, rfl, _⟩ := h; rfl
  obtain ⟨a, ns, rfl, hS, h63, q⟩ := h
  refine ⟨_, (pss_cons (ps_set (i := 1) sc_law.nd rfl (Or.inl rfl) (pe_call G_u_law_state (hr.mono (by omega)) rfl T.m_u_law_state T.F_u_law_state.kp T.b_u_law_state .nil pass0 (pa_cons (pv 0) pa_nil)))
    (pss_cons (ps_set (i := 2) sc_law.nd rfl (Or.inl rfl) (pe_call G_u_law_operations (hr.mono (by omega)) rfl T.m_u_law_operations T.F_u_law_operations.kp T.b_u_law_operations .nil pass0 (pa_cons (pv 1) pa_nil)))
    (pss_cons (ps_set (i := 3) sc_law.nd rfl (Or.inl rfl) (pe_call G_u_law_tall (hr.mono (by omega)) rfl T.m_u_law_tall T.F_u_law_tall.kp T.b_u_law_tall .nil pass0 (pa_cons (pv 1) (pa_cons (pv 2) (pa_cons (pe_call G_u_law_draw (hr.mono (by omega)) rfl T.m_u_law_draw T.F_u_law_draw.kp T.b_u_law_draw .nil pass0 (pa_cons (pv 1) (pa_cons pe_int pa_nil))) pa_nil)))))
    (pss_cons (ps_set (i := 4) sc_law.nd rfl (Or.inl rfl) (pe_call G_u_law_positions (hr.mono (by omega)) rfl T.m_u_law_positions T.F_u_law_positions.kp T.b_u_law_positions .nil pass0 (pa_cons (pv 3) pa_nil)))
    (pss_cons (ps_set (i := 5) sc_law.nd rfl (Or.inl rfl) (pe_ix (r := rIxL K) ix_list (pv 4) (pe_call G_u_law_draw (hr.mono (by omega)) rfl T.m_u_law_draw T.F_u_law_draw.kp T.b_u_law_draw .nil pass0 (pa_cons (pv 1) (pa_cons (pe_callB (r := rLenS K) j_len (by rfl) T.n_len PySem.boot_len (pa_cons (pv 4) pa_nil)) pa_nil))) (fun _ _ => rfl)))
    (pss_cons (ps_set (i := 6) sc_law.nd rfl (Or.inl rfl) (pe_call G_u_law_term (hr.mono (by omega)) rfl T.m_u_law_term T.F_u_law_term.kp T.b_u_law_term .nil pass0 (pa_cons (pv 1) (pa_cons (pv 2) (pa_cons (pe_call G_u_law_draw (hr.mono (by omega)) rfl T.m_u_law_draw T.F_u_law_draw.kp T.b_u_law_draw .nil pass0 (pa_cons (pv 1) (pa_cons pe_int pa_nil))) (pa_cons (pe_op op_mul pe_int (pe_callTy call_int1 (by rfl) T.n_int boot_int (pa_cons (pe_cmpR op_lt (pe_callB (r := rLenS K) j_len (by rfl) T.n_len PySem.boot_len (pa_cons (pv 5) pa_nil)) pe_int (nomark _)) pa_nil))) pa_nil))))))
    (pss_cons (ps_set (i := 7) sc_law.nd rfl (Or.inl rfl) (pe_call G_u_law_replace (hr.mono (by omega)) rfl T.m_u_law_replace T.F_u_law_replace.kp T.b_u_law_replace .nil pass0 (pa_cons (pv 3) (pa_cons (pv 5) (pa_cons (pv 6) pa_nil)))))
    (pss_cons (ps_if (pt_not (pt_val (pe_call G_u_law_same (hr.mono (by omega)) rfl T.m_u_law_same T.F_u_law_same.kp T.b_u_law_same .nil pass0 (pa_cons (pe_callS G_replace (hr.mono (by omega)) rfl T.m_replace T.F_replace.kp T.b_replace no_raise (pa_cons (pv 3) (pa_cons (pv 5) (pa_cons (pv 6) pa_nil)))) (pa_cons (pv 7) pa_nil))))) (pss_one (ps_ret pe_bl)) pss_nil)
    (pss_cons (ps_if (pt_not (pt_val (pe_call G_u_law_same (hr.mono (by omega)) rfl T.m_u_law_same T.F_u_law_same.kp T.b_u_law_same .nil pass0 (pa_cons (pe_callS G_replace (hr.mono (by omega)) rfl T.m_replace T.F_replace.kp T.b_replace no_raise (pa_cons (pv 3) (pa_cons (pe_tup pa_nil) (pa_cons (pv 6) pa_nil)))) (pa_cons (pv 6) pa_nil))))) (pss_one (ps_ret pe_bl)) pss_nil)
    (pss_cons (ps_if (pt_not (pt_val (pe_call G_u_law_same (hr.mono (by omega)) rfl T.m_u_law_same T.F_u_law_same.kp T.b_u_law_same .nil pass0 (pa_cons (pe_callS G_replace (hr.mono (by omega)) rfl T.m_replace T.F_replace.kp T.b_replace no_raise (pa_cons (pv 7) (pa_cons (pv 5) (pa_cons (pe_call G_u_law_subterm (hr.mono (by omega)) rfl T.m_u_law_subterm T.F_u_law_subterm.kp T.b_u_law_subterm .nil pass0 (pa_cons (pv 3) (pa_cons (pv 5) pa_nil))) pa_nil)))) (pa_cons (pv 3) pa_nil))))) (pss_one (ps_ret pe_bl)) pss_nil)
    (pss_cons (ps_set (i := 8) sc_law.nd rfl (Or.inl rfl) pe_int)
    (pss_cons (ps_set (i := 9) sc_law.nd rfl (Or.inl rfl) (pe_call G_u_law_subterm (hr.mono (by omega)) rfl T.m_u_law_subterm T.F_u_law_subterm.kp T.b_u_law_subterm .nil pass0 (pa_cons (pv 3) (pa_cons (pv 5) pa_nil))))
    (pss_cons (ps_if (pt_val (pe_callB (r := rIsi K) call_isi (by rfl) T.n_isinstance boot_isinstance (pa_cons (pv 9) (pa_cons (pe_bltn (v := .ty "tuple") (by rfl) T.n_tuple boot_tuple rfl) pa_nil)))) (pss_one (ps_set (i := 8) sc_law.nd rfl (Or.inl rfl) (pe_op op_sub (pe_callB (r := rLenS K) j_len (by rfl) T.n_len PySem.boot_len (pa_cons (pv 9) pa_nil)) pe_int))) pss_nil)
    (pss_cons (ps_if (pt_not (pt_val (pe_call G_u_law_refused (hr.mono (by omega)) rfl T.m_u_law_refused T.F_u_law_refused.kp T.b_u_law_refused .nil pass0 (pa_cons (pv 3) (pa_cons (pe_op (r := rCatA K) op_catA (pv 5) (pe_tup (pa_cons (pe_op op_add (pv 8) pe_int) pa_nil))) (pa_cons (pv 6) pa_nil)))))) (pss_one (ps_ret pe_bl)) pss_nil)
    (pss_one (ps_ret (pe_call G_u_law_refused (hr.mono (by omega)) rfl T.m_u_law_refused T.F_u_law_refused.kp T.b_u_law_refused .nil pass0 (pa_cons (pv 3) (pa_cons (pe_op (r := rCatA K) op_catA (pv 5) (pe_tup (pa_cons pe_int pa_nil))) (pa_cons (pv 6) pa_nil)))))))))))))))))))), ?_⟩
  walk_at "rd"
  refine ⟨a, ns, rfl, hS, h63, fun s l H1 s1 n1 _ st1 => ?_⟩
  walk_at "rd"
  refine ⟨s, l, rfl, st1, fun o fs H2 b2 st2 no op2 => ?_⟩
  walk_at "rd"
  refine ⟨s, l, 11, rfl, st2, by decide, by decide, fun B H3 B0 B1 b3 st3 => ?_⟩
  have op3 := op2.but st2 b3
  refine ⟨s, l, o, fs, B, rfl, st3, op3, B0, by omega, fun v t H4 b4 st4 ht wt dt zt => ?_⟩
  have op4 := op3.but st3 b4
  walk_at "rd"
  refine ⟨v, t, rfl, ht, by omega, by omega, fun p H5 s5 n5 h5 => ?_⟩
  obtain ⟨ps, hp, hl, hg⟩ := h5
  have h5 : PosIn H5 p (poss t) := ⟨ps, hp, hl, hg⟩
  have pl := poss_len t
  have zp := t.sz_pos
  have st5 := st4.same s5
  have op5 := op4.same s5
  iterate 3 refine ⟨_, rfl, ?_⟩
  refine ⟨p, _, rfl, .inl (SqL.of hp), ?_⟩
  rw [List.length_map, hl, pl]
  walk_at "rd"
  refine ⟨s, l, (t.sz : Int), rfl, st5, by omega, by omega, fun k H6 k0 k1 b6 st6 => ?_⟩
  have tu56 := st5.tu b6
  have op6 := op5.but st5 b6
  obtain ⟨k, rfl⟩ := Int.eq_ofNat_of_zero_le k0
  have hk : k < (poss t).length := by omega
  obtain ⟨xs, pa, q1, g1, g2, g3, g4, g5⟩ := h5.get hk
  have psne : p ≠ s := fun z => by obtain ⟨_, _, _, _, e0, _⟩ := st4; rw [z, e0] at n5; cases n5
  refine ⟨p, xs, _, _, rfl, rfl, SqL.of (b6 _ _ g1 psne), atI_nat g3, ?_⟩
  obtain ⟨ip, il⟩ := poss_is t q1 (List.mem_of_getElem? g4)
  replace g5 := tu56 _ _ g5
  have ht6 := ht.tu ((tu_same s5).trans tu56)
  clear ht g1 g2 g3 g4 hp hg h5 op2 op3 op4 op5
  walk_at "rd"
  refine ⟨s, l, 11, rfl, st6, by decide, by decide, fun C H7 C0 C1 b7 st7 => ?_⟩
  replace g5 := st6.tu b7 _ _ g5
  have ht7 := ht6.tu (st6.tu b7)
  have op7 := op6.but st6 b7
  walk_at "rd"
  refine .inr ⟨_, rfl, ?_⟩
  have hc : ∀ bb : Bool, CMul 2 (if bb = true then 1 else 0) := by
    intro bb
    cases bb
    · first | exact Or.inr ⟨by decide, by decide⟩ | exact Or.inl ⟨by decide, by decide⟩
    · first | exact Or.inr ⟨by decide, by decide⟩ | exact Or.inl ⟨by decide, by decide⟩
  refine ⟨2, _, rfl, rfl, hc _, ?_⟩
  have hh : ∀ bb : Bool, ∃ h : Nat, (h = 0 ∨ h = 2) ∧ (2 : Int) * (if bb = true then 1 else 0) = (h : Int) := by
    intro bb
    cases bb
    · exact ⟨0, .inl rfl, rfl⟩
    · exact ⟨2, .inr rfl, rfl⟩
  obtain ⟨h, h02, eh⟩ := hh (decide (((q1.map V.int).length : Int) < 25))
  refine ⟨s, l, o, fs, C, h, by omega, by rw [← eh]; rfl, st7, op7, C0, by omega, fun w u H8 b8 st8 hu wu du zu => ?_⟩
  have zu : u.sz ≤ 13 := by rcases h02 with e | e <;> subst e <;> omega
  have du : u.dep ≤ 3 := by omega
  replace g5 := st7.tu b8 _ _ g5
  have ht8 := ht7.tu (st7.tu b8)
  have rp := rep_dep u q1 t ip
  walk_at "rd"
  refine ⟨v, w, t, u, pa, q1, rfl, ht8, hu, g5, ip, by omega, by omega, fun dv H9 s9 hd9 => ?_⟩
  have tu9 := tu_same s9
  walk_at "rd"
  refine ⟨v, w, t, u, pa, q1, rfl, ht8.tu tu9, hu.tu tu9, tu9 _ _ g5, by omega, by omega, fun _ r1 H10 s10 hr10 => ?_, fun z => absurd ip z⟩
  walk_at "rd"
  have tu10 : Tu H8 H10 := tu_same (s9.trans s10)
  refine ⟨r1, dv, _, _, rfl, hr10, hd9.tu (tu_same s10), by omega, by omega, fun b H11 s11 hb => ?_⟩
  rw [hb.mpr rfl]
  have tu11 : Tu H8 H11 := tu10.trans (tu_same s11)
  walk_at "rd"
  refine ⟨by show 0 ≤ sizeLine; decide, ?_⟩
  first | intro e n12 | refine fun e n12 => ?_
  generalize ehn : upd H11 e _ = H12
  have s12 := J.al_same n12 ehn
  have h12 := J.al_at ehn
  clear ehn
  have tu12 : Tu H8 H12 := tu11.trans (tu_same s12)
  walk_at "rd"
  refine ⟨v, w, t, u, e, [], rfl, ht8.tu tu12, hu.tu tu12, h12, by omega, by decide, fun _ r2 H13 s13 hr13 => ?_, fun z => absurd trivial z⟩
  have tu13 : Tu H8 H13 := tu12.trans (tu_same s13)
  walk_at "rd"
  refine ⟨r2, w, u, u, rfl, hr13, hu.tu tu13, by omega, by omega, fun b H14 s14 hb => ?_⟩
  rw [hb.mpr rfl]
  have tu14 : Tu H8 H14 := tu13.trans (tu_same s14)
  obtain ⟨c, hcc⟩ := (isPos_at q1 t).mp ip
  have zc := at_sz _ _ _ hcc
  walk_at "rd"
  refine ⟨v, t, c, pa, q1, rfl, ht8.tu tu14, tu14 _ _ g5, hcc, fun cv H15 s15 hcv => ?_⟩
  have tu15 : Tu H8 H15 := tu14.trans (tu_same s15)
  have tu95 : Tu H9 H15 := tu_same (s10.trans (s11.trans (s12.trans (s13.trans (s14.trans s15)))))
  have rc := rep_dep c q1 (rep u q1 t) (isPos_rep ip)
  refine ⟨dv, cv, rep u q1 t, c, pa, q1, rfl, hd9.tu tu95, hcv, tu15 _ _ g5, by omega, by omega, fun _ r3 H16 s16 hr16 => ?_, fun z => absurd (isPos_rep ip) z⟩
  rw [rep_back u c q1 t hcc] at hr16
  have tu16 : Tu H8 H16 := tu15.trans (tu_same s16)
  walk_at "rd"
  refine ⟨r3, v, t, t, rfl, hr16, ht8.tu tu16, by omega, by omega, fun b H17 s17 hb => ?_⟩
  rw [hb.mpr rfl]
  have tu17 : Tu H8 H17 := tu16.trans (tu_same s17)
  walk_at "rd"
  refine ⟨v, t, c, pa, q1, rfl, ht8.tu tu17, tu17 _ _ g5, hcc, fun fv H18 s18 hfv => ?_⟩
  have tu18 : Tu H8 H18 := tu17.trans (tu_same s18)
  dsimp only [gName]
  refine seq_join (t := tIfS _ _ _) (fun σ' H' => ∃ m : Nat, σ' = [some (.ref a), some (.ref s), some (.ref o), some v, some (.ref p), some (.ref pa), some w, some dv, some (.int (m : Int)), some fv] ∧ ¬ IsPos [(m : Int) + 1] c ∧ m ≤ 200 ∧ Same H18 H') ?_ (fun N' cont => ?_)
  · rintro σ' H19 ⟨m, rfl, nm, m2, s19⟩
    have tu19 : Tu H8 H19 := tu18.trans (tu_same s19)
    have npos : ∀ k : Int, ¬ IsPos [k] c → ¬ IsPos (q1 ++ [k]) t := fun k h z => by
      obtain ⟨u', hu', h'⟩ := (isPos_app _ _ _).mp z
      rw [hcc] at hu'; cases hu'
      exact h h'
    walk_at "rd"
    refine ⟨show 1 ≤ sizeLine by decide, ?_⟩
    first | intro p1 n20 | refine fun p1 n20 => ?_
    generalize ehn : upd H19 p1 _ = H20
    have s20 := J.al_same n20 ehn
    have h20 := J.al_at ehn
    clear ehn
    have tu20 : Tu H8 H20 := tu19.trans (tu_same s20)
    refine catA (tu20 _ _ g5) h20 (List.cons_ne_nil _ _) ?_ fun p2 H21 s21 h21 => ?_
    · rw [List.length_map]; exact Nat.le_trans (show q1.length + 1 ≤ 100 by omega) (by decide)
    have tu21 : Tu H8 H21 := tu20.trans (tu_same s21)
    walk_at "rd"
    refine ⟨v, w, t, u, p2, q1 ++ [(m : Int) + 1], rfl, ht8.tu tu21, hu.tu tu21, by rw [List.map_append]; exact h21, by omega, by rw [List.length_append]; show _ + 1 ≤ _; omega, npos _ nm, fun H22 s22 => ?_⟩
    have tu22 : Tu H8 H22 := tu21.trans (tu_same s22)
    walk_at "rd"
    refine ⟨show 1 ≤ sizeLine by decide, ?_⟩
    first | intro p3 n23 | refine fun p3 n23 => ?_
    generalize ehn : upd H22 p3 _ = H23
    have s23 := J.al_same n23 ehn
    have h23 := J.al_at ehn
    clear ehn
    have tu23 : Tu H8 H23 := tu22.trans (tu_same s23)
    refine catA (tu23 _ _ g5) h23 (List.cons_ne_nil _ _) ?_ fun p4 H24 s24 h24 => ?_
    · rw [List.length_map]; exact Nat.le_trans (show q1.length + 1 ≤ 100 by omega) (by decide)
    have tu24 : Tu H8 H24 := tu23.trans (tu_same s24)
    walk_at "rd"
    refine ⟨v, w, t, u, p4, q1 ++ [0], rfl, ht8.tu tu24, hu.tu tu24, by rw [List.map_append]; exact h24, by omega, by rw [List.length_append]; show _ + 1 ≤ _; omega, npos _ fun z => ?_, fun H25 s25 => q _⟩
    obtain ⟨_, _, _, _, z, _⟩ := isPos_one.mp z
    omega
  · cases c with
    | var n =>
      cases (show fv = .int n from hfv)
      walk_at "ri"
      exact cont _ _ ⟨0, rfl, fun z => z.elim, by decide, Same.refl _⟩
    | app f ts =>
      obtain ⟨b, vs, rfl, hb, hts⟩ := hfv
      have hvl := hts.length
      have hll := Tm.len_le ts
      have zc2 : 1 + Tm.szs ts ≤ t.sz := zc.1
      walk_at "ri"
      have e : ((vs.length + 1 : Nat) : Int) - 1 = (vs.length : Int) := by omega
      refine cont _ _ ⟨vs.length, by rw [← e]; rfl, fun z => ?_, by omega, Same.refl _⟩
      obtain ⟨_, _, _, e0, _, e2⟩ := isPos_one.mp z
      cases e0
      have := (List.getElem?_eq_some_iff.mp e2).1
      omega

end
theorem all_mk {l : PySem.W.OpenLaw} {w : World} {K : PySem.W.Frag} {h : Heap} {mg : Str → Option Value} {fa : Addr} (X : K.In h) (G : h.Ns mainGlobals mg) (hfa : mg "law" = some (.ref fa))
    {c_NoPosition : Addr}
    {f0 f1 f2 f3 f4 f5 f6 f7 f8 f9 f10 f11 f12 f13 f14 f15 f16 f17 : Addr} {od0 an0 od1 an1 od2 an2 od3 an3 od4 an4 od5 an5 od6 an6 od7 an7 od8 an8 od9 an9 od10 an10 od11 an11 od12 an12 od13 an13 od14 an14 od15 an15 od16 an16 od17 an17 : Option Addr} {sl0 sl1 sl2 sl3 sl4 sl5 sl6 sl7 sl8 sl9 sl10 sl11 sl12 sl13 sl14 sl15 sl16 sl17 : Array (Option Value)} {oc0 kV0 dc0 pm0 cd0 ct0 oc1 kV1 dc1 pm1 cd1 ct1 oc2 kV2 dc2 pm2 cd2 ct2 oc3 kV3 dc3 pm3 cd3 ct3 oc4 kV4 dc4 pm4 cd4 ct4 oc5 kV5 dc5 pm5 cd5 ct5 oc6 kV6 dc6 pm6 cd6 ct6 oc7 kV7 dc7 pm7 cd7 ct7 oc8 kV8 dc8 pm8 cd8 ct8 oc9 kV9 dc9 pm9 cd9 ct9 oc10 kV10 dc10 pm10 cd10 ct10 oc11 kV11 dc11 pm11 cd11 ct11 oc12 kV12 dc12 pm12 cd12 ct12 oc13 kV13 dc13 pm13 cd13 ct13 oc14 kV14 dc14 pm14 cd14 ct14 oc15 kV15 dc15 pm15 cd15 ct15 oc16 kV16 dc16 pm16 cd16 ct16 oc17 kV17 dc17 pm17 cd17 ct17 : Value}
    (a0 : PySem.W.nsIn K mainGlobals "_law_state" = some (some (.ref f0))) (l0 : K.lookup f0 = some ⟨oc0, od0, .func (PySem.W.fnOf "_law_state" "_law_state" (defArgs s_u_law_state) (defBody s_u_law_state) (defScope s_u_law_state) .none kV0 dc0 pm0 an0 cd0 ct0), sl0⟩) (e0 : PySem.W.codeIn K cd0 "_law_state" = true) (k0 : PySem.W.keepIn K (.ref f0) = true)
    (a1 : PySem.W.nsIn K mainGlobals "_law_mix" = some (some (.ref f1))) (l1 : K.lookup f1 = some ⟨oc1, od1, .func (PySem.W.fnOf "_law_mix" "_law_mix" (defArgs s_u_law_mix) (defBody s_u_law_mix) (defScope s_u_law_mix) .none kV1 dc1 pm1 an1 cd1 ct1), sl1⟩) (e1 : PySem.W.codeIn K cd1 "_law_mix" = true) (k1 : PySem.W.keepIn K (.ref f1) = true)
    (a2 : PySem.W.nsIn K mainGlobals "_law_number" = some (some (.ref f2))) (l2 : K.lookup f2 = some ⟨oc2, od2, .func (PySem.W.fnOf "_law_number" "_law_number" (defArgs s_u_law_number) (defBody s_u_law_number) (defScope s_u_law_number) .none kV2 dc2 pm2 an2 cd2 ct2), sl2⟩) (e2 : PySem.W.codeIn K cd2 "_law_number" = true) (k2 : PySem.W.keepIn K (.ref f2) = true)
    (a3 : PySem.W.nsIn K mainGlobals "_law_draw" = some (some (.ref f3))) (l3 : K.lookup f3 = some ⟨oc3, od3, .func (PySem.W.fnOf "_law_draw" "_law_draw" (defArgs s_u_law_draw) (defBody s_u_law_draw) (defScope s_u_law_draw) .none kV3 dc3 pm3 an3 cd3 ct3), sl3⟩) (e3 : PySem.W.codeIn K cd3 "_law_draw" = true) (k3 : PySem.W.keepIn K (.ref f3) = true)
    (a4 : PySem.W.nsIn K mainGlobals "_law_word" = some (some (.ref f4))) (l4 : K.lookup f4 = some ⟨oc4, od4, .func (PySem.W.fnOf "_law_word" "_law_word" (defArgs s_u_law_word) (defBody s_u_law_word) (defScope s_u_law_word) .none kV4 dc4 pm4 an4 cd4 ct4), sl4⟩) (e4 : PySem.W.codeIn K cd4 "_law_word" = true) (k4 : PySem.W.keepIn K (.ref f4) = true)
    (a5 : PySem.W.nsIn K mainGlobals "_law_names" = some (some (.ref f5))) (l5 : K.lookup f5 = some ⟨oc5, od5, .func (PySem.W.fnOf "_law_names" "_law_names" (defArgs s_u_law_names) (defBody s_u_law_names) (defScope s_u_law_names) .none kV5 dc5 pm5 an5 cd5 ct5), sl5⟩) (e5 : PySem.W.codeIn K cd5 "_law_names" = true) (k5 : PySem.W.keepIn K (.ref f5) = true)
    (a6 : PySem.W.nsIn K mainGlobals "_law_operations" = some (some (.ref f6))) (l6 : K.lookup f6 = some ⟨oc6, od6, .func (PySem.W.fnOf "_law_operations" "_law_operations" (defArgs s_u_law_operations) (defBody s_u_law_operations) (defScope s_u_law_operations) .none kV6 dc6 pm6 an6 cd6 ct6), sl6⟩) (e6 : PySem.W.codeIn K cd6 "_law_operations" = true) (k6 : PySem.W.keepIn K (.ref f6) = true)
    (a7 : PySem.W.nsIn K mainGlobals "_law_leaf" = some (some (.ref f7))) (l7 : K.lookup f7 = some ⟨oc7, od7, .func (PySem.W.fnOf "_law_leaf" "_law_leaf" (defArgs s_u_law_leaf) (defBody s_u_law_leaf) (defScope s_u_law_leaf) .none kV7 dc7 pm7 an7 cd7 ct7), sl7⟩) (e7 : PySem.W.codeIn K cd7 "_law_leaf" = true) (k7 : PySem.W.keepIn K (.ref f7) = true)
    (a8 : PySem.W.nsIn K mainGlobals "_law_term" = some (some (.ref f8))) (l8 : K.lookup f8 = some ⟨oc8, od8, .func (PySem.W.fnOf "_law_term" "_law_term" (defArgs s_u_law_term) (defBody s_u_law_term) (defScope s_u_law_term) .none kV8 dc8 pm8 an8 cd8 ct8), sl8⟩) (e8 : PySem.W.codeIn K cd8 "_law_term" = true) (k8 : PySem.W.keepIn K (.ref f8) = true)
    (a9 : PySem.W.nsIn K mainGlobals "_law_tall" = some (some (.ref f9))) (l9 : K.lookup f9 = some ⟨oc9, od9, .func (PySem.W.fnOf "_law_tall" "_law_tall" (defArgs s_u_law_tall) (defBody s_u_law_tall) (defScope s_u_law_tall) .none kV9 dc9 pm9 an9 cd9 ct9), sl9⟩) (e9 : PySem.W.codeIn K cd9 "_law_tall" = true) (k9 : PySem.W.keepIn K (.ref f9) = true)
    (a10 : PySem.W.nsIn K mainGlobals "_law_positions" = some (some (.ref f10))) (l10 : K.lookup f10 = some ⟨oc10, od10, .func (PySem.W.fnOf "_law_positions" "_law_positions" (defArgs s_u_law_positions) (defBody s_u_law_positions) (defScope s_u_law_positions) .none kV10 dc10 pm10 an10 cd10 ct10), sl10⟩) (e10 : PySem.W.codeIn K cd10 "_law_positions" = true) (k10 : PySem.W.keepIn K (.ref f10) = true)
    (a11 : PySem.W.nsIn K mainGlobals "_law_replace" = some (some (.ref f11))) (l11 : K.lookup f11 = some ⟨oc11, od11, .func (PySem.W.fnOf "_law_replace" "_law_replace" (defArgs s_u_law_replace) (defBody s_u_law_replace) (defScope s_u_law_replace) .none kV11 dc11 pm11 an11 cd11 ct11), sl11⟩) (e11 : PySem.W.codeIn K cd11 "_law_replace" = true) (k11 : PySem.W.keepIn K (.ref f11) = true)
    (a12 : PySem.W.nsIn K mainGlobals "_law_subterm" = some (some (.ref f12))) (l12 : K.lookup f12 = some ⟨oc12, od12, .func (PySem.W.fnOf "_law_subterm" "_law_subterm" (defArgs s_u_law_subterm) (defBody s_u_law_subterm) (defScope s_u_law_subterm) .none kV12 dc12 pm12 an12 cd12 ct12), sl12⟩) (e12 : PySem.W.codeIn K cd12 "_law_subterm" = true) (k12 : PySem.W.keepIn K (.ref f12) = true)
    (a13 : PySem.W.nsIn K mainGlobals "_spine" = some (some (.ref f13))) (l13 : K.lookup f13 = some ⟨oc13, od13, .func (PySem.W.fnOf "_spine" "_spine" (defArgs s_u_spine) (defBody s_u_spine) (defScope s_u_spine) .none kV13 dc13 pm13 an13 cd13 ct13), sl13⟩) (e13 : PySem.W.codeIn K cd13 "_spine" = true) (k13 : PySem.W.keepIn K (.ref f13) = true)
    (a14 : PySem.W.nsIn K mainGlobals "replace" = some (some (.ref f14))) (l14 : K.lookup f14 = some ⟨oc14, od14, .func (PySem.W.fnOf "replace" "replace" (defArgs s_replace) (defBody s_replace) (defScope s_replace) .none kV14 dc14 pm14 an14 cd14 ct14), sl14⟩) (e14 : PySem.W.codeIn K cd14 "replace" = true) (k14 : PySem.W.keepIn K (.ref f14) = true)
    (a15 : PySem.W.nsIn K mainGlobals "_law_refused" = some (some (.ref f15))) (l15 : K.lookup f15 = some ⟨oc15, od15, .func (PySem.W.fnOf "_law_refused" "_law_refused" (defArgs s_u_law_refused) (defBody s_u_law_refused) (defScope s_u_law_refused) .none kV15 dc15 pm15 an15 cd15 ct15), sl15⟩) (e15 : PySem.W.codeIn K cd15 "_law_refused" = true) (k15 : PySem.W.keepIn K (.ref f15) = true)
    (a16 : PySem.W.nsIn K mainGlobals "_law_same" = some (some (.ref f16))) (l16 : K.lookup f16 = some ⟨oc16, od16, .func (PySem.W.fnOf "_law_same" "_law_same" (defArgs s_u_law_same) (defBody s_u_law_same) (defScope s_u_law_same) .none kV16 dc16 pm16 an16 cd16 ct16), sl16⟩) (e16 : PySem.W.codeIn K cd16 "_law_same" = true) (k16 : PySem.W.keepIn K (.ref f16) = true)
    (a17 : PySem.W.nsIn K mainGlobals "law" = some (some (.ref f17))) (l17 : K.lookup f17 = some ⟨oc17, od17, .func (PySem.W.fnOf "law" "law" (defArgs s_law) (defBody s_law) (defScope s_law) .none kV17 dc17 pm17 an17 cd17 ct17), sl17⟩) (e17 : PySem.W.codeIn K cd17 "law" = true) (k17 : PySem.W.keepIn K (.ref f17) = true)
    (z_bool : PySem.W.nsIn K mainGlobals "bool" = some none)
    (z_int : PySem.W.nsIn K mainGlobals "int" = some none)
    (z_isinstance : PySem.W.nsIn K mainGlobals "isinstance" = some none)
    (z_len : PySem.W.nsIn K mainGlobals "len" = some none)
    (z_list : PySem.W.nsIn K mainGlobals "list" = some none)
    (z_range : PySem.W.nsIn K mainGlobals "range" = some none)
    (z_str : PySem.W.nsIn K mainGlobals "str" = some none)
    (z_tuple : PySem.W.nsIn K mainGlobals "tuple" = some none)
    (xa_NoPosition : PySem.W.nsIn K mainGlobals "NoPosition" = some (some (.ref c_NoPosition)))
    (xk_NoPosition : PySem.W.keepIn K (.ref c_NoPosition) = true)
    (xe_NoPosition : PySem.W.excIn K c_NoPosition [.type "ValueError", .type "Exception", .type "BaseException", .type "object"] "ValueError.__new__" = true)
    (xb_NoPosition : PySem.W.subIn K (.ref c_NoPosition) (.type "BaseException") = some true)
    (xt_NoPosition : PySem.W.typeIn K (.ref c_NoPosition) = some (.type "type"))
    (xs_NoPosition : PySem.W.subIn K (.ref c_NoPosition) (.ref c_NoPosition) = some true)
    (xhg_NoPosition : PySem.W.findIn K (.ref c_NoPosition) "__getattribute__" = some (some (.builtin "BaseException.__getattribute__")))
    (xhk_NoPosition : PySem.W.findIn K (.ref c_NoPosition) "__getattr__" = some none)
    (xhd_NoPosition : PySem.W.hasDictIn K c_NoPosition = true)
    (xha_NoPosition : PySem.W.findIn K (.ref c_NoPosition) "__class__" = some (some (.builtin "object.__class__")))
    (xhn_NoPosition : PySem.W.specialIn K (.builtin "object.__class__") "__get__" = some (some (.builtin "getset_descriptor.__get__")))
    (xht_NoPosition : PySem.W.takesIn K (.builtin "object.__class__") = some true)
    (xhm_NoPosition : PySem.W.mroIn K c_NoPosition (.type "object") = some true)
    : ∃ fd : FuncData, (∀ (s : Shared) (v : Value), BindsTo s fd ⟨[v], []⟩ [("script", v)]) ∧ ∀ base : Heap, K.In base → base.Ns mainGlobals mg → FnOk l.prog w K mg base CX0 70 fa fd ["script"] (sp_law K) := by
  have e := hfa.symm.trans (PySem.W.mg_of X G a17)
  cases e
  have F0 := fun_mk (st := s_u_law_state) l0 e0 k0
  have b0 := F0.binds (ps := ["script"]) fun _ _ _ _ _ _ us hl => match us, hl with | [_], _ => rfl
  have F1 := fun_mk (st := s_u_law_mix) l1 e1 k1
  have b1 := F1.binds (ps := ["cell"]) fun _ _ _ _ _ _ us hl => match us, hl with | [_], _ => rfl
  have F2 := fun_mk (st := s_u_law_number) l2 e2 k2
  have b2 := F2.binds (ps := ["cell"]) fun _ _ _ _ _ _ us hl => match us, hl with | [_], _ => rfl
  have F3 := fun_mk (st := s_u_law_draw) l3 e3 k3
  have b3 := F3.binds (ps := ["state", "many"]) fun _ _ _ _ _ _ us hl => match us, hl with | [_, _], _ => rfl
  have F4 := fun_mk (st := s_u_law_word) l4 e4 k4
  have b4 := F4.binds (ps := ["state", "many"]) fun _ _ _ _ _ _ us hl => match us, hl with | [_, _], _ => rfl
  have F5 := fun_mk (st := s_u_law_names) l5 e5 k5
  have b5 := F5.binds (ps := ["state", "count"]) fun _ _ _ _ _ _ us hl => match us, hl with | [_, _], _ => rfl
  have F6 := fun_mk (st := s_u_law_operations) l6 e6 k6
  have b6 := F6.binds (ps := ["state"]) fun _ _ _ _ _ _ us hl => match us, hl with | [_], _ => rfl
  have F7 := fun_mk (st := s_u_law_leaf) l7 e7 k7
  have b7 := F7.binds (ps := ["state", "operations", "count"]) fun _ _ _ _ _ _ us hl => match us, hl with | [_, _, _], _ => rfl
  have F8 := fun_mk (st := s_u_law_term) l8 e8 k8
  have b8 := F8.binds (ps := ["state", "operations", "count", "height"]) fun _ _ _ _ _ _ us hl => match us, hl with | [_, _, _, _], _ => rfl
  have F9 := fun_mk (st := s_u_law_tall) l9 e9 k9
  have b9 := F9.binds (ps := ["state", "operations", "count"]) fun _ _ _ _ _ _ us hl => match us, hl with | [_, _, _], _ => rfl
  have F10 := fun_mk (st := s_u_law_positions) l10 e10 k10
  have b10 := F10.binds (ps := ["term"]) fun _ _ _ _ _ _ us hl => match us, hl with | [_], _ => rfl
  have F11 := fun_mk (st := s_u_law_replace) l11 e11 k11
  have b11 := F11.binds (ps := ["term", "position", "new"]) fun _ _ _ _ _ _ us hl => match us, hl with | [_, _, _], _ => rfl
  have F12 := fun_mk (st := s_u_law_subterm) l12 e12 k12
  have b12 := F12.binds (ps := ["term", "position"]) fun _ _ _ _ _ _ us hl => match us, hl with | [_, _], _ => rfl
  have F13 := fun_mk (st := s_u_spine) l13 e13 k13
  have b13 := F13.binds (ps := ["term", "position"]) fun _ _ _ _ _ _ us hl => match us, hl with | [_, _], _ => rfl
  have F14 := fun_mk (st := s_replace) l14 e14 k14
  have b14 := F14.binds (ps := ["term", "position", "new"]) fun _ _ _ _ _ _ us hl => match us, hl with | [_, _, _], _ => rfl
  have F15 := fun_mk (st := s_u_law_refused) l15 e15 k15
  have b15 := F15.binds (ps := ["term", "position", "new"]) fun _ _ _ _ _ _ us hl => match us, hl with | [_, _, _], _ => rfl
  have F16 := fun_mk (st := s_u_law_same) l16 e16 k16
  have b16 := F16.binds (ps := ["first", "second"]) fun _ _ _ _ _ _ us hl => match us, hl with | [_, _], _ => rfl
  have F17 := fun_mk (st := s_law) l17 e17 k17
  have b17 := F17.binds (ps := ["script"]) fun _ _ _ _ _ _ us hl => match us, hl with | [_], _ => rfl
  have T : Tx K mg ⟨f0, _, f1, _, f2, _, f3, _, f4, _, f5, _, f6, _, f7, _, f8, _, f9, _, f10, _, f11, _, f12, _, f13, _, f14, _, f15, _, f16, _, fa, _, c_NoPosition⟩ := ⟨F0, b0, PySem.W.mg_of X G a0, F1, b1, PySem.W.mg_of X G a1, F2, b2, PySem.W.mg_of X G a2, F3, b3, PySem.W.mg_of X G a3, F4, b4, PySem.W.mg_of X G a4, F5, b5, PySem.W.mg_of X G a5, F6, b6, PySem.W.mg_of X G a6, F7, b7, PySem.W.mg_of X G a7, F8, b8, PySem.W.mg_of X G a8, F9, b9, PySem.W.mg_of X G a9, F10, b10, PySem.W.mg_of X G a10, F11, b11, PySem.W.mg_of X G a11, F12, b12, PySem.W.mg_of X G a12, F13, b13, PySem.W.mg_of X G a13, F14, b14, PySem.W.mg_of X G a14, F15, b15, PySem.W.mg_of X G a15, F16, b16, PySem.W.mg_of X G a16, F17, b17, PySem.W.mg_of X G a17, PySem.W.mg_none_of X G z_bool, PySem.W.mg_none_of X G z_int, PySem.W.mg_none_of X G z_isinstance, PySem.W.mg_none_of X G z_len, PySem.W.mg_none_of X G z_list, PySem.W.mg_none_of X G z_range, PySem.W.mg_none_of X G z_str, PySem.W.mg_none_of X G z_tuple, err_mk X G xa_NoPosition xk_NoPosition xe_NoPosition xb_NoPosition xt_NoPosition xs_NoPosition xhg_NoPosition xhk_NoPosition xhd_NoPosition xha_NoPosition xhn_NoPosition xht_NoPosition xhm_NoPosition⟩
  refine ⟨PySem.W.fnOf "law" "law" (defArgs s_law) (defBody s_law) (defScope s_law) .none kV17 dc17 pm17 an17 cd17 ct17, fun s v => .of_eq rfl, fun base _ _ => ?_⟩
  exact ok_law (P := l.prog) (w := w) (base := base) T
theorem walk {l : PySem.W.OpenLaw} {q : Program} {loose : List Str} {XP : (Str → Option Value) → Heap → Prop} {YP : World → Heap → Prop} {d : DefRec} {K : Params → PySem.W.Frag} (hn : l.most = some 63) (hdf : d.params.defaults = [])
    (hY : ∀ (w : World) (h : Heap), YP w h → (K w.params).In h)
    (F : ∀ (w : World) (mg : Str → Option Value) (fa : Addr) (h : Heap), (K w.params).In h → h.Ns mainGlobals mg → mg d.name = some (.ref fa) →
      ∃ fd : FuncData, (∀ (s : Shared) (u : Value), BindsTo s fd ⟨[u], []⟩ [("script", u)]) ∧ ∀ base : Heap, (K w.params).In base → base.Ns mainGlobals mg → FnOk l.prog w (K w.params) mg base CX0 70 fa fd ["script"] (sp_law (K w.params))) :
    PySem.W.WalkO q loose XP YP l.row.toRowW d [] (fun f vs => PySem.call f vs) :=
  L2.walk_of (n := 63) (k := 70) (x := "script") (CX := fun _ => CX0) (sp := fun w => sp_law (K w.params)) hn (by decide) hdf ⟨rfl, by decide, by decide⟩ hY F (fun _ _ a ns hl _ hS => ⟨a, ns, rfl, hS, hl, fun _ => rfl⟩) fun _ _ _ _ _ z => z
end Lw
open PySem PySem.W PyProof.Rows
set_option maxRecDepth 100000 in
set_option maxHeartbeats 0 in
theorem PySem.Challenge.cw_joinedends_k04_replace_holds : PySem.Challenge.rw_joinedends_k04_replace.Holds := by
  w_on; o_law; k_head; (case hw => w_witness2)
  k_fill
  refine Lw.walk (l := PySem.Challenge.rw_joinedends_k04_replace) rfl rfl (fun w h Y => PySem.W.kIn_of Y) ?F
  case F =>
    intro w mg fa h KX G hmg
    refine' Lw.all_mk KX G hmg ?a0 ?l0 ?e0 ?k0 ?a1 ?l1 ?e1 ?k1 ?a2 ?l2 ?e2 ?k2 ?a3 ?l3 ?e3 ?k3 ?a4 ?l4 ?e4 ?k4 ?a5 ?l5 ?e5 ?k5 ?a6 ?l6 ?e6 ?k6 ?a7 ?l7 ?e7 ?k7 ?a8 ?l8 ?e8 ?k8 ?a9 ?l9 ?e9 ?k9 ?a10 ?l10 ?e10 ?k10 ?a11 ?l11 ?e11 ?k11 ?a12 ?l12 ?e12 ?k12 ?a13 ?l13 ?e13 ?k13 ?a14 ?l14 ?e14 ?k14 ?a15 ?l15 ?e15 ?k15 ?a16 ?l16 ?e16 ?k16 ?a17 ?l17 ?e17 ?k17 ?z_bool ?z_int ?z_isinstance ?z_len ?z_list ?z_range ?z_str ?z_tuple ?xa_NoPosition ?xk_NoPosition ?xe_NoPosition ?xb_NoPosition ?xt_NoPosition ?xs_NoPosition ?xhg_NoPosition ?xhk_NoPosition ?xhd_NoPosition ?xha_NoPosition ?xhn_NoPosition ?xht_NoPosition ?xhm_NoPosition
    (case xa_NoPosition => k_is)
    (case a0 => k_is)
    (case l0 => k_is)
    (case e0 => k_is)
    (case k0 => k_is)
    (case a1 => k_is)
    (case l1 => k_is)
    (case e1 => k_is)
    (case k1 => k_is)
    (case a2 => k_is)
    (case l2 => k_is)
    (case e2 => k_is)
    (case k2 => k_is)
    (case a3 => k_is)
    (case l3 => k_is)
    (case e3 => k_is)
    (case k3 => k_is)
    (case a4 => k_is)
    (case l4 => k_is)
    (case e4 => k_is)
    (case k4 => k_is)
    (case a5 => k_is)
    (case l5 => k_is)
    (case e5 => k_is)
    (case k5 => k_is)
    (case a6 => k_is)
    (case l6 => k_is)
    (case e6 => k_is)
    (case k6 => k_is)
    (case a7 => k_is)
    (case l7 => k_is)
    (case e7 => k_is)
    (case k7 => k_is)
    (case a8 => k_is)
    (case l8 => k_is)
    (case e8 => k_is)
    (case k8 => k_is)
    (case a9 => k_is)
    (case l9 => k_is)
    (case e9 => k_is)
    (case k9 => k_is)
    (case a10 => k_is)
    (case l10 => k_is)
    (case e10 => k_is)
    (case k10 => k_is)
    (case a11 => k_is)
    (case l11 => k_is)
    (case e11 => k_is)
    (case k11 => k_is)
    (case a12 => k_is)
    (case l12 => k_is)
    (case e12 => k_is)
    (case k12 => k_is)
    (case a13 => k_is)
    (case l13 => k_is)
    (case e13 => k_is)
    (case k13 => k_is)
    (case a14 => k_is)
    (case l14 => k_is)
    (case e14 => k_is)
    (case k14 => k_is)
    (case a15 => k_is)
    (case l15 => k_is)
    (case e15 => k_is)
    (case k15 => k_is)
    (case a16 => k_is)
    (case l16 => k_is)
    (case e16 => k_is)
    (case k16 => k_is)
    (case a17 => k_is)
    (case l17 => k_is)
    (case e17 => k_is)
    (case k17 => k_is)
    (case z_bool => k_is)
    (case z_int => k_is)
    (case z_isinstance => k_is)
    (case z_len => k_is)
    (case z_list => k_is)
    (case z_range => k_is)
    (case z_str => k_is)
    (case z_tuple => k_is)
    (case xk_NoPosition => k_is)
    (case xe_NoPosition => k_exc)
    (case xb_NoPosition => k_is)
    (case xt_NoPosition => k_is)
    (case xs_NoPosition => first | rfl | k_is)
    (case xhg_NoPosition => k_is)
    (case xhk_NoPosition => k_is)
    (case xhd_NoPosition => k_is)
    (case xha_NoPosition => k_is)
    (case xhn_NoPosition => k_is)
    (case xht_NoPosition => k_is)
    (case xhm_NoPosition => k_is)
#print axioms PySem.Challenge.cw_joinedends_k04_replace_holds
