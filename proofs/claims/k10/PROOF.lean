import PyProof.Rows.All
import Wide.All
import OpenK.AllK
import Wide.FinOn
import HandS.ForMost
import HandS.IsInst
import HandS.FStr
import PySem.Challenge.RW_joinedends_k10_write_terms
set_option Elab.async false
set_option maxRecDepth 100000
/-! ### terms, and what a heap says of them -/
namespace J
open PySem L2

/-- a term of the document -/
inductive Tm where
  | var (n : Int)
  | app (f : Str) (ts : List Tm)

mutual
def Tm.sz : Tm → Nat
  | .var _ => 1
  | .app _ ts => 1 + Tm.szs ts
def Tm.szs : List Tm → Nat
  | [] => 0
  | t :: ts => Tm.sz t + Tm.szs ts
end
mutual
def Tm.dep : Tm → Nat
  | .var _ => 1
  | .app _ ts => 1 + Tm.deps ts
def Tm.deps : List Tm → Nat
  | [] => 0
  | t :: ts => max (Tm.dep t) (Tm.deps ts)
end
mutual
/-- t stands in H as the value v -/
def TmIn (H : Hp) : Tm → V → Prop
  | .var n, v => v = .int n
  | .app f ts, v => ∃ a vs, v = .ref a ∧ H a = some (.tup (.str f :: vs)) ∧ TmsIn H ts vs
def TmsIn (H : Hp) : List Tm → List V → Prop
  | [], vs => vs = []
  | t :: ts, vs => ∃ v r, vs = v :: r ∧ TmIn H t v ∧ TmsIn H ts r
end
/-- the arity of the k-th drawn operation -/
def ar (k : Nat) : Nat := if k < 2 then 0 else k - 1
mutual
/-- variables below B, applications of the named operations -/
def Tm.wf (fs : List Str) (B : Int) : Tm → Prop
  | .var n => 0 ≤ n ∧ n < B
  | .app f ts => (∃ k, fs[k]? = some f ∧ ts.length = ar k) ∧ Tm.wfs fs B ts
def Tm.wfs (fs : List Str) (B : Int) : List Tm → Prop
  | [] => True
  | t :: ts => Tm.wf fs B t ∧ Tm.wfs fs B ts
end

/-- induction over terms -/
theorem Tm.ind {P : Tm → Prop} (hv : ∀ n, P (.var n)) (ha : ∀ f ts, (∀ t ∈ ts, P t) → P (.app f ts)) : ∀ t, P t
  | .var n => hv n
  | .app f ts => ha f ts (go ts)
where go : ∀ ts : List Tm, ∀ t ∈ ts, P t
  | [], _, h => nomatch h
  | u :: us, t, h => by
    rcases List.mem_cons.mp h with e | h
    · rw [e]; exact Tm.ind hv ha u
    · exact go us t h

theorem Tm.sz_pos : ∀ t : Tm, 1 ≤ t.sz
  | .var _ => Nat.le_refl _
  | .app _ _ => by show 1 ≤ 1 + _; omega
theorem Tm.dep_pos : ∀ t : Tm, 1 ≤ t.dep
  | .var _ => Nat.le_refl _
  | .app _ _ => by show 1 ≤ 1 + _; omega
theorem Tm.dep_of_mem : ∀ {ts : List Tm} {t : Tm}, t ∈ ts → t.dep ≤ Tm.deps ts
  | u :: us, t, h => by
    show t.dep ≤ max u.dep (Tm.deps us)
    rcases List.mem_cons.mp h with e | h
    · rw [e]; omega
    · have := Tm.dep_of_mem h; omega
theorem Tm.deps_le : ∀ {ts : List Tm} {n : Nat}, (∀ t ∈ ts, t.dep ≤ n) → Tm.deps ts ≤ n
  | [], _, _ => Nat.zero_le _
  | u :: us, n, h => by
    have h1 := h u (List.mem_cons_self ..)
    have h2 := Tm.deps_le (ts := us) fun t m => h t (List.mem_cons_of_mem _ m)
    show max u.dep (Tm.deps us) ≤ n
    omega
theorem Tm.szs_le : ∀ {ts : List Tm} {M : Nat}, (∀ t ∈ ts, 2 * t.sz + 1 ≤ M) → 2 * Tm.szs ts + ts.length ≤ ts.length * M
  | [], _, _ => by show 2 * 0 + 0 ≤ _; omega
  | u :: us, M, h => by
    have h1 := h u (List.mem_cons_self ..)
    have h2 := Tm.szs_le (ts := us) (M := M) fun t m => h t (List.mem_cons_of_mem _ m)
    show 2 * (u.sz + Tm.szs us) + (us.length + 1) ≤ (us.length + 1) * M
    rw [Nat.add_mul, Nat.one_mul]
    omega
theorem Tm.szs_three {ts : List Tm} {h : Nat} (hl : ts.length ≤ 3) (hw : ∀ t ∈ ts, 2 * t.sz + 1 ≤ 3 ^ h) : 2 * (1 + Tm.szs ts) + 1 ≤ 3 ^ (h + 1) := by
  have h1 := Tm.szs_le hw
  have h3 : 1 ≤ 3 ^ h := Nat.pow_pos (by decide)
  have h2 : 3 ^ (h + 1) = 3 ^ h * 3 := rfl
  generalize 3 ^ h = M at *
  rw [h2]
  match e : ts.length, hl with
  | 0, _ => rw [e] at h1; omega
  | 1, _ => rw [e] at h1; omega
  | 2, _ => rw [e] at h1; omega
  | 3, _ => rw [e] at h1; omega
theorem Tm.wf_of_mem {fs : List Str} {B : Int} : ∀ {ts : List Tm} {t : Tm}, Tm.wfs fs B ts → t ∈ ts → t.wf fs B
  | u :: us, t, w, h => by
    have w : u.wf fs B ∧ Tm.wfs fs B us := w
    rcases List.mem_cons.mp h with e | h
    · rw [e]; exact w.1
    · exact Tm.wf_of_mem w.2 h
theorem Tm.wfs_of {fs : List Str} {B : Int} : ∀ {ts : List Tm}, (∀ t ∈ ts, t.wf fs B) → Tm.wfs fs B ts
  | [], _ => True.intro
  | u :: us, h => ⟨h u (List.mem_cons_self ..), Tm.wfs_of fun t m => h t (List.mem_cons_of_mem _ m)⟩

/-- a tuple that is known stays known -/
def Tu (H H' : Hp) : Prop := ∀ a xs, H a = some (.tup xs) → H' a = some (.tup xs)
theorem Tu.refl (H : Hp) : Tu H H := fun _ _ h => h
theorem Tu.trans {H H1 H2 : Hp} (a : Tu H H1) (b : Tu H1 H2) : Tu H H2 := fun x y h => b x y (a x y h)
theorem tu_same {H H' : Hp} (s : Same H H') : Tu H H' := fun a _ h => s a _ h
theorem tu_upd {H : Hp} {p : Addr} {o : HO} (h : ∀ xs, H p ≠ some (.tup xs)) : Tu H (upd H p o) := fun a xs e => by
  have ne : a ≠ p := fun z => by subst z; exact h _ e
  rw [upd_ne ne]; exact e
mutual
theorem TmIn.mono {H H' : Hp} (s : Tu H H') : ∀ (t : Tm) (v : V), TmIn H t v → TmIn H' t v
  | .var _, _, h => h
  | .app _ ts, _, ⟨a, vs, e, h, r⟩ => ⟨a, vs, e, s _ _ h, TmsIn.mono s ts vs r⟩
theorem TmsIn.mono {H H' : Hp} (s : Tu H H') : ∀ (ts : List Tm) (vs : List V), TmsIn H ts vs → TmsIn H' ts vs
  | [], _, h => h
  | t :: ts, _, ⟨v, r, e, h, q⟩ => ⟨v, r, e, TmIn.mono s t v h, TmsIn.mono s ts r q⟩
end
theorem TmIn.tu {H H' : Hp} {t : Tm} {v : V} (h : TmIn H t v) (s : Tu H H') : TmIn H' t v := TmIn.mono s t v h
theorem TmsIn.tu {H H' : Hp} {t : List Tm} {v : List V} (h : TmsIn H t v) (s : Tu H H') : TmsIn H' t v := TmsIn.mono s t v h
theorem TmsIn.length {H : Hp} : ∀ {ts : List Tm} {vs : List V}, TmsIn H ts vs → vs.length = ts.length
  | [], _, h => by cases (show _ = [] from h); rfl
  | t :: ts, _, ⟨v, r, e, _, q⟩ => by rw [e, List.length_cons, List.length_cons, TmsIn.length q]
theorem TmsIn.get {H : Hp} : ∀ {ts : List Tm} {vs : List V} {i : Nat} {v : V}, TmsIn H ts vs → vs[i]? = some v → ∃ t, ts[i]? = some t ∧ TmIn H t v
  | [], _, i, v, h, e => by cases (show _ = [] from h); simp at e
  | t :: ts, _, 0, v, ⟨w, r, rfl, h, q⟩, e => by
    have e : w = v := by simpa using e
    exact ⟨t, rfl, e ▸ h⟩
  | t :: ts, _, i + 1, v, ⟨w, r, rfl, h, q⟩, e => by
    obtain ⟨u, h1, h2⟩ := TmsIn.get (i := i) (v := v) q (by simpa using e)
    exact ⟨u, by simpa using h1, h2⟩
theorem TmsIn.get' {H : Hp} {ts : List Tm} {vs : List V} {i : Nat} {t : Tm} (h : TmsIn H ts vs) (e : ts[i]? = some t) : ∃ v, vs[i]? = some v ∧ TmIn H t v := by
  have hi : i < ts.length := (List.getElem?_eq_some_iff.mp e).1
  rw [← h.length] at hi
  obtain ⟨u, h1, h2⟩ := h.get (List.getElem?_eq_getElem hi)
  rw [e] at h1
  cases h1
  exact ⟨_, List.getElem?_eq_getElem hi, h2⟩
theorem TmsIn.append {H : Hp} : ∀ {ts us : List Tm} {vs ws : List V}, TmsIn H ts vs → TmsIn H us ws → TmsIn H (ts ++ us) (vs ++ ws)
  | [], us, vs, ws, h, q => by cases (show vs = [] from h); exact q
  | t :: ts, us, _, ws, ⟨v, r, rfl, h, k⟩, q => ⟨v, r ++ ws, rfl, h, TmsIn.append k q⟩
theorem TmsIn.one {H : Hp} {t : Tm} {v : V} (h : TmIn H t v) : TmsIn H [t] [v] := ⟨v, [], rfl, h, rfl⟩

/-! ### heaps -/
theorem same_new {H : Hp} {p : Addr} (h : H p = none) (o : HO) : Same H (upd H p o) := fun b u q => by rw [upd_ne (ne_of_none q h)]; exact q
/-- what H does not know may change -/
theorem same_mut {H H' : Hp} {p : Addr} (e : Same H H') (h : H p = none) (o : HO) : Same H (upd H' p o) := fun a u ha => by
  rw [upd_ne (ne_of_none ha h)]; exact e a u ha
theorem al_same {H H1 : Hp} {p : Addr} {o : HO} (n : H p = none) (e : upd H p o = H1) : Same H H1 := e ▸ same_new n o
theorem al_at {H H1 : Hp} {p : Addr} {o : HO} (e : upd H p o = H1) : H1 p = some o := by rw [← e]; exact upd_same
theorem al_mut {H0 H H1 : Hp} {p : Addr} {o : HO} (s : Same H0 H) (n : H0 p = none) (e : upd H p o = H1) : Same H0 H1 := e ▸ same_mut s n o
theorem al_but {H H1 : Hp} {p : Addr} {o : HO} (e : upd H p o = H1) : ∀ b u, H b = some u → b ≠ p → H1 b = some u := fun b u h n => by rw [← e, upd_ne n]; exact h
/-- all but the object at s stands as it stood -/
def But (s : Addr) (H H' : Hp) : Prop := ∀ b o, H b = some o → b ≠ s → H' b = some o
theorem But.refl (s : Addr) (H : Hp) : But s H H := fun _ _ h _ => h
theorem But.trans {s : Addr} {H H1 H2 : Hp} (a : But s H H1) (b : But s H1 H2) : But s H H2 := fun c o h n => b c o (a c o h n) n
theorem but_same {s : Addr} {H H' : Hp} (h : Same H H') : But s H H' := fun b o q _ => h b o q
theorem but_upd {s : Addr} {H : Hp} (o : HO) : But s H (upd H s o) := fun b u q n => by rw [upd_ne n]; exact q
theorem But.mut {s : Addr} {H H' : Hp} {p : Addr} (e : But s H H') (h : H p = none) (o : HO) : But s H (upd H' p o) := fun a u ha n => by
  rw [upd_ne (ne_of_none ha h)]; exact e a u ha n

/-- the list at s from which a script is drawn (what is left of a number, the numbers at l, the place, the seed) -/
def St (H : Hp) (s l : Addr) : Prop := ∃ (v at0 sd : Int) (ns : List Int), H s = some (.lst [.int v, .ref l, .int at0, .int sd]) ∧ H l = some (.lst (ns.map V.int)) ∧
  0 ≤ at0 ∧ at0 ≤ (ns.length : Int) ∧ 0 ≤ v ∧ 0 ≤ sd ∧ sd < 2147483648 ∧ ns.length ≤ 63
theorem St.ne_list {H : Hp} {s l : Addr} {ns : List Int} {v at0 sd : Int} {l' : Addr} (h : H s = some (.lst [.int v, .ref l', .int at0, .int sd])) (q : H l = some (.lst (ns.map V.int))) : l ≠ s := by
  intro e; subst e
  rw [h] at q
  injection q with q; injection q with q
  match ns, q with
  | [], q => cases q
  | [_], q => injection q with _ q; cases q
  | _ :: _ :: _, q => injection q with _ q; injection q with q _; cases q
theorem St.ne {H : Hp} {s l : Addr} (h : St H s l) : l ≠ s := by
  obtain ⟨v, a, d, ns, h1, h2, r⟩ := h
  exact St.ne_list h1 h2
theorem St.same {H H' : Hp} {s l : Addr} (h : St H s l) (b : Same H H') : St H' s l := by
  obtain ⟨v, a, d, ns, h1, h2, r⟩ := h
  exact ⟨v, a, d, ns, b _ _ h1, b _ _ h2, r⟩
theorem St.lst {H : Hp} {s l : Addr} (h : St H s l) : ∃ v a d : Int, H s = some (.lst [.int v, .ref l, .int a, .int d]) := by
  obtain ⟨v, a, d, ns, h1, _⟩ := h
  exact ⟨_, _, _, h1⟩
theorem St.nums {H : Hp} {s l : Addr} (h : St H s l) : ∃ ns : List Int, H l = some (.lst (ns.map V.int)) := by
  obtain ⟨v, a, d, ns, h1, h2, _⟩ := h
  exact ⟨_, h2⟩
theorem St.upd {H : Hp} {s l D : Addr} {o : HO} (h : St H s l) (n1 : s ≠ D) (n2 : l ≠ D) : St (upd H D o) s l := by
  obtain ⟨v, a, d, ns, h1, h2, r⟩ := h
  exact ⟨v, a, d, ns, by rw [upd_ne n1]; exact h1, by rw [upd_ne n2]; exact h2, r⟩
/-- an address that was free -/
theorem St.free {H : Hp} {s l D : Addr} (h : St H s l) (n : H D = none) : s ≠ D ∧ l ≠ D := by
  obtain ⟨v, a, d, ns, h1, h2, r⟩ := h
  exact ⟨ne_of_none h1 n, ne_of_none h2 n⟩
theorem St.but {H H' : Hp} {s l p : Addr} (h : St H s l) (b : But p H H') (n1 : s ≠ p) (n2 : l ≠ p) : St H' s l := by
  obtain ⟨v, a, d, ns, h1, h2, r⟩ := h
  exact ⟨v, a, d, ns, b _ _ h1 n1, b _ _ h2 n2, r⟩
theorem St.tu {H H' : Hp} {s l : Addr} (h : St H s l) (b : But s H H') : Tu H H' := fun a xs e => b a _ e fun z => by
  obtain ⟨_, _, _, q⟩ := h.lst
  rw [z, q] at e; cases e
/-- an object of another kind than the state's -/
theorem St.ne_tup {H : Hp} {s l a : Addr} {xs : List V} (h : St H s l) (e : H a = some (.tup xs)) : a ≠ s := fun z => by
  obtain ⟨_, _, _, q⟩ := h.lst
  rw [z, q] at e; cases e
theorem St.ne_dK {H : Hp} {s l a : Addr} {xs} (h : St H s l) (e : H a = some (.dK xs)) : a ≠ s := fun z => by
  obtain ⟨_, _, _, q⟩ := h.lst
  rw [z, q] at e; cases e

/-! ### names and operations -/
def Low (z : Str) : Prop := ∀ c ∈ z.cps.toList, 97 ≤ c ∧ c ≤ 122
/-- drawn names -/
structure Names (fs : List Str) : Prop where
  low : ∀ f ∈ fs, Low f
  lo : ∀ f ∈ fs, 1 ≤ f.length
  hi : ∀ f ∈ fs, f.length ≤ 7
  nd : fs.Nodup
/-- drawn operations at o -/
def Ops (H : Hp) (o : Addr) (fs : List Str) : Prop := Names fs ∧ (fs.length = 4 ∨ fs.length = 5) ∧ ∃ as : List Addr, H o = some (.lst (as.map V.ref)) ∧ as.length = fs.length ∧
  ∀ (k : Nat) (f : Str) (a : Addr), fs[k]? = some f → as[k]? = some a → H a = some (.tup [.str f, .int (ar k)])
theorem Ops.ne {H : Hp} {o s l : Addr} {fs : List Str} (h : Ops H o fs) (q : St H s l) : o ≠ s := by
  obtain ⟨_, hl, as, h1, h2, _⟩ := h
  obtain ⟨v, a, d, ns, e, _⟩ := q
  intro z; subst z
  rw [h1] at e
  injection e with e; injection e with e
  match as, e with
  | [], e => cases e
  | x :: _, e => injection e with e _; cases e
theorem Ops.but {H H' : Hp} {o s l : Addr} {fs : List Str} (h : Ops H o fs) (q : St H s l) (b : But s H H') : Ops H' o fs := by
  have ne := h.ne q
  obtain ⟨n, hl, as, h1, h2, h3⟩ := h
  exact ⟨n, hl, as, b _ _ h1 ne, h2, fun k f a e e' => b _ _ (h3 k f a e e') (q.ne_tup (h3 k f a e e'))⟩
theorem Ops.same {H H' : Hp} {o : Addr} {fs : List Str} (h : Ops H o fs) (b : Same H H') : Ops H' o fs := by
  obtain ⟨n, hl, as, h1, h2, h3⟩ := h
  exact ⟨n, hl, as, b _ _ h1, h2, fun k f a e e' => b _ _ (h3 k f a e e')⟩
theorem Ops.get {H : Hp} {o : Addr} {fs : List Str} (h : Ops H o fs) {k : Nat} (hk : k < fs.length) : ∃ (xs : List V) (a : Addr) (f : Str), H o = some (.lst xs) ∧ xs.length = fs.length ∧ xs[k]? = some (.ref a) ∧ fs[k]? = some f ∧ H a = some (.tup [.str f, .int (ar k)]) := by
  obtain ⟨n, hl, as, h1, h2, h3⟩ := h
  have hk' : k < as.length := by omega
  refine ⟨_, as[k], fs[k], h1, by rw [List.length_map, h2], ?_, List.getElem?_eq_getElem hk, h3 k _ _ (List.getElem?_eq_getElem hk) (List.getElem?_eq_getElem hk')⟩
  rw [List.getElem?_map, List.getElem?_eq_getElem hk']; rfl

/-! ### rules whose readings name the written part -/
def rLenS (K : PySem.W.Frag) : List V → Hp → VK → Prop := fun xs H Q => ∃ p ys, xs = [.ref p] ∧ (SqL K H p ys ∨ SqT K H p ys) ∧ Q (.int ys.length) H
def rListS (K : PySem.W.Frag) : List V → Hp → VK → Prop := fun xs H Q => ∃ p ys, xs = [.ref p] ∧ (SqL K H p ys ∨ SqT K H p ys) ∧ ∀ l, H l = none → Q (.ref l) (upd H l (.lst ys))
def rTupS (K : PySem.W.Frag) : List V → Hp → VK → Prop := fun xs H Q => ∃ p ys, xs = [.ref p] ∧ ((SqL K H p ys ∧ ∀ l, H l = none → Q (.ref l) (upd H l (.tup ys))) ∨ (SqT K H p ys ∧ Q (.ref p) H))
section
variable {X : Cx}
theorem j_len : CallR X (.builtin "len") (rLenS X.K) := call_len_seq
theorem j_list : CallR X (.type "list") (rListS X.K) := call_list_of
theorem j_tuple : CallR X (.type "tuple") (rTupS X.K) := call_tuple_of
end
/-! ### two ways meet again ahead of the rest -/
theorem seq_join {t u : TS} {D : Ends} {σ : L2.St} {H : Hp} (I : L2.St → Hp → Prop) (h2 : ∀ σ' H', I σ' H' → u D σ' H') (h1 : ∀ N : L2.St → Hp → Prop, (∀ σ' H', I σ' H' → N σ' H') → t { D with nx := N } σ H) : tSeq t u D σ H := h1 (u D) h2
theorem int_of {i j : Int} (h : (V.bl (decide (i = j))) = .bl true) : i = j := by
  injection h with h; exact of_decide_eq_true h
theorem fmod_0 {a m : Int} (h : 1 ≤ m) : 0 ≤ a.fmod m := by
  rw [Int.fmod_eq_emod_of_nonneg _ (by omega)]; exact Int.emod_nonneg _ (by omega)
theorem fmod_lt {a m : Int} (h : 1 ≤ m) : a.fmod m < m := by
  rw [Int.fmod_eq_emod_of_nonneg _ (by omega)]; exact Int.emod_lt_of_pos _ (by omega)
theorem at_int {ns : List Int} {k : Int} (h0 : 0 ≤ k) (h : k < (ns.length : Int)) : ∃ n, atI (ns.map V.int) k = some (.int n) := by
  have hk : k.toNat < ns.length := by omega
  have q : atI (ns.map V.int) ((k.toNat : Nat) : Int) = some (.int ns[k.toNat]) := atI_nat (by rw [List.getElem?_map, List.getElem?_eq_getElem hk]; rfl)
  rw [Int.toNat_of_nonneg h0] at q
  exact ⟨_, q⟩
theorem at_get {xs : List V} {k : Int} {v : V} (h0 : 0 ≤ k) (h : xs[k.toNat]? = some v) : atI xs k = some v := by
  have q : atI xs ((k.toNat : Nat) : Int) = some v := atI_nat h
  rw [Int.toNat_of_nonneg h0] at q
  exact q
/-! ### contracts that nothing meets -/
theorem fn_none {P : Program} {w : World} {K : PySem.W.Frag} {mg : Str → Option Value} {base : Heap} {CX : CXT} {f : Addr} {fd : FuncData} {ps : List Str} {sp : Sp} {k : Nat} (no : ∀ vs H Q E, ¬ sp vs H Q E) : FnOk P w K mg base CX k f fd ps sp :=
  ⟨fun vs H Q E h => absurd h (no vs H Q E), fun _ _ _ _ _ _ vs Q E _ _ _ _ h => absurd h (no vs _ Q E)⟩
end J
/-! ### isinstance, slices of terms -/
namespace J
open PySem L2
section
variable {K : PySem.W.Frag} {H : Hp} {Q : VK}
theorem isi {x : V} {n m : String} {b : Bool} (ty : TyX K H x (.type n)) (h : kitB n m = some b) (q : Q (.bl b) H) : rIsi K [x, .ty m] H Q := ⟨x, .ty m, .type n, .type m, b, rfl, .ty m, ty, kit_ty h, q⟩
theorem isi_int {i : Int} {m : String} {b : Bool} (h : kitB "int" m = some b) (q : Q (.bl b) H) : rIsi K [.int i, .ty m] H Q := isi (.base (.int i)) h q
theorem isi_str {x : Str} {m : String} {b : Bool} (h : kitB "str" m = some b) (q : Q (.bl b) H) : rIsi K [.str x, .ty m] H Q := isi (.base (.str x)) h q
theorem isi_tup {a : Addr} {xs : List V} {m : String} {b : Bool} (e : H a = some (.tup xs)) (h : kitB "tuple" m = some b) (q : Q (.bl b) H) : rIsi K [.ref a, .ty m] H Q := isi (.base (.tup e)) h q
theorem isi_lst {a : Addr} {xs : List V} {m : String} {b : Bool} (e : H a = some (.lst xs)) (h : kitB "list" m = some b) (q : Q (.bl b) H) : rIsi K [.ref a, .ty m] H Q := isi (.base (.lst e)) h q
theorem isi_dK {a : Addr} {xs} {m : String} {b : Bool} (e : H a = some (.dK xs)) (h : kitB "dict" m = some b) (q : Q (.bl b) H) : rIsi K [.ref a, .ty m] H Q := isi (.base (.dK e)) h q
theorem isi_bl {i : Bool} {m : String} {b : Bool} (h : kitB "bool" m = some b) (q : Q (.bl b) H) : rIsi K [.bl i, .ty m] H Q := isi (.base (.bl i)) h q
end
theorem cut1 (x : V) (vs : List V) : cutV (x :: vs) (some 1) none = vs := by
  unfold cutV
  have e1 : HT.sIx (x :: vs).length 0 (some 1) = 1 := by
    show min 1 (vs.length + 1) = 1
    omega
  have e2 : HT.sIx (x :: vs).length (x :: vs).length none = vs.length + 1 := rfl
  rw [e1, e2]
  simp
theorem sl1c (x : V) (vs : List V) : ¬ (HT.sIx (x :: vs).length 0 (some 1) = 0 ∧ HT.sIx (x :: vs).length (x :: vs).length none = (x :: vs).length) := by
  intro ⟨z, _⟩
  have e1 : HT.sIx (x :: vs).length 0 (some 1) = 1 := by
    show min 1 (vs.length + 1) = 1
    omega
  rw [e1] at z; cases z
theorem at_zero {x : V} {xs : List V} : atI (x :: xs) 0 = some x := atI_nat (j := 0) rfl
/-- t[1:] of an application -/
theorem sl1 {K : PySem.W.Frag} {H : Hp} {Q : VK} {a : Addr} {x : V} {vs : List V} (h : H a = some (.tup (x :: vs))) (q : ∀ p, H p = none → Q (.ref p) (upd H p (.tup vs))) : rSlT K (.ref a) (some 1) none H Q := by
  refine ⟨a, _, rfl, SqT.of h, ?_, ?_⟩
  · intro ⟨z, _⟩
    have e1 : HT.sIx (x :: vs).length 0 (some 1) = 1 := by
      show min 1 (vs.length + 1) = 1
      omega
    rw [e1] at z; cases z
  · rw [cut1]; exact q
theorem But.same {s : Addr} {H H' : Hp} (b : But s H H') {H0 : Hp} (k : Same H0 H) (n : H0 s = none) : Same H0 H' := fun a o e => b a o (k a o e) (ne_of_none e n)
theorem But.upd {s : Addr} {H H' : Hp} (b : But s H H') (o : HO) : But s H (upd H' s o) := b.trans (but_upd o)
theorem but_tu {s : Addr} {H H' : Hp} (b : But s H H') (h : ∀ xs, H s ≠ some (.tup xs)) : Tu H H' := fun a xs e => b a _ e fun z => by
  rw [z] at e; exact h _ e
theorem lst_not_tup {H : Hp} {p : Addr} {ys : List V} (h : H p = some (.lst ys)) : ∀ xs, H p ≠ some (.tup xs) := fun xs e => by
  rw [h] at e; cases e
theorem TmIn.dep_arg {f : Str} {ts : List Tm} {t : Tm} {N : Nat} (h : (Tm.app f ts).dep ≤ N + 1) (m : t ∈ ts) : t.dep ≤ N := by
  have h : 1 + Tm.deps ts ≤ N + 1 := h
  have := Tm.dep_of_mem m
  omega
theorem Tm.len_le : ∀ ts : List Tm, ts.length ≤ Tm.szs ts
  | [] => Nat.le_refl _
  | u :: us => by
    have h1 := u.sz_pos
    have h2 := Tm.len_le us
    show us.length + 1 ≤ u.sz + Tm.szs us
    omega
theorem Tm.sz_arg : ∀ {ts : List Tm} {t : Tm}, t ∈ ts → t.sz ≤ Tm.szs ts
  | u :: us, t, h => by
    show t.sz ≤ u.sz + Tm.szs us
    rcases List.mem_cons.mp h with e | h
    · rw [e]; omega
    · have := Tm.sz_arg h; omega
end J
/-! ### tests by their meaning -/
namespace J
open PySem L2
theorem ifD {p : Prop} [Decidable p] {A B : Prop} (h1 : p → A) (h2 : ¬ p → B) : if decide p = true then A else B := ite2 (fun e => h1 (of_decide_eq_true e)) fun e => h2 fun z => e (decide_eq_true z)
theorem ifN {p : Prop} [Decidable p] {A B : Prop} (h1 : ¬ p → A) (h2 : p → B) : if (!decide p) = true then A else B := by
  by_cases h : p
  · rw [decide_eq_true h]; exact h2 h
  · rw [decide_eq_false h]; exact h1 h
theorem ifEq {i j : Int} {A B : Prop} (h1 : i = j → A) (h2 : i ≠ j → B) : if decide (V.int i = V.int j) = true then A else B := ifD (fun e => h1 (by injection e)) fun e => h2 fun z => e (by rw [z])
theorem ifNe {i j : Int} {A B : Prop} (h1 : i ≠ j → A) (h2 : i = j → B) : if (!decide (V.int i = V.int j)) = true then A else B := ifN (fun e => h1 fun z => e (by rw [z])) fun e => h2 (by injection e)
theorem ifEqS {i j : Str} {A B : Prop} (h1 : i = j → A) (h2 : i ≠ j → B) : if decide (V.str i = V.str j) = true then A else B := ifD (fun e => h1 (by injection e)) fun e => h2 fun z => e (by rw [z])
theorem ifNeS {i j : Str} {A B : Prop} (h1 : i ≠ j → A) (h2 : i = j → B) : if (!decide (V.str i = V.str j)) = true then A else B := ifN (fun e => h1 fun z => e (by rw [z])) fun e => h2 (by injection e)
theorem ifB {b : Bool} {A B : Prop} (h1 : b = true → A) (h2 : b = false → B) : if b = true then A else B := ite2 h1 fun e => h2 (by cases b; rfl; exact absurd rfl e)
theorem ifNB {b : Bool} {A B : Prop} (h1 : b = false → A) (h2 : b = true → B) : if (!b) = true then A else B := by
  cases b with
  | true => exact h2 rfl
  | false => exact h1 rfl
theorem list_take_succ {α : Type} {l : List α} {i : Nat} {x : α} (h : l[i]? = some x) : l.take (i + 1) = l.take i ++ [x] := by
  rw [List.take_succ, h]; rfl
end J
namespace J
open PySem L2
mutual
theorem Tm.wf_mono {fs : List Str} {B B' : Int} (h : B ≤ B') : ∀ t : Tm, t.wf fs B → t.wf fs B'
  | .var n, w => by
    have w : 0 ≤ n ∧ n < B := w
    exact ⟨w.1, by omega⟩
  | .app f ts, w => ⟨w.1, Tm.wfs_mono h ts w.2⟩
theorem Tm.wfs_mono {fs : List Str} {B B' : Int} (h : B ≤ B') : ∀ ts : List Tm, Tm.wfs fs B ts → Tm.wfs fs B' ts
  | [], _ => True.intro
  | t :: ts, w => ⟨Tm.wf_mono h t w.1, Tm.wfs_mono h ts w.2⟩
end
theorem Tm.wf.mono {fs : List Str} {B B' : Int} {t : Tm} (w : t.wf fs B) (h : B ≤ B') : t.wf fs B' := Tm.wf_mono h t w
end J

/-! ### texts as lists of signs -/
namespace J
open PySem L2

theorem len_tl (x : Str) : x.length = x.cps.toList.length := by
  show x.cps.size = _
  rw [Array.length_toList]
theorem tl_inj {x y : Str} (h : x.cps.toList = y.cps.toList) : x = y := by
  cases x; cases y
  exact congrArg Str.mk (Array.toList_inj.mp h)
theorem tl_app (x y : Str) : (x ++ y).cps.toList = x.cps.toList ++ y.cps.toList := TL.tl_append x y
theorem len_app (x y : Str) : (x ++ y).length = x.length + y.length := by
  rw [len_tl, tl_app, List.length_append, ← len_tl, ← len_tl]
/-- texts joined by nothing -/
theorem join0 : ∀ zs : List Str, (Txt.join "" zs).cps.toList = (zs.map fun z => z.cps.toList).flatten := by
  intro zs
  rw [TL.join_eq]
  show TL.tl (Str.join "" zs) = _
  rw [TL.tl_join]
  have e : TL.tl ("" : Str) = [] := rfl
  rw [e]
  induction zs with
  | nil => rfl
  | cons a r ih =>
    cases r with
    | nil => simp [TL.joinL]
    | cons b r => 
      show TL.tl a ++ ([] ++ TL.joinL [] (TL.tl b :: r.map TL.tl)) = _
      rw [List.nil_append, List.map_cons, List.flatten_cons, ← ih]
      rfl
theorem abc : ∀ k : Nat, k < 26 → ("abcdefghijklmnopqrstuvwxyz" : Str).cps.toList[k]? = some (97 + k) := by decide +kernel
theorem abc_at {r : Int} (h0 : 0 ≤ r) (h1 : r < 26) : atI ("abcdefghijklmnopqrstuvwxyz" : Str).cps.toList r = some (97 + r.toNat) := by
  have q := atI_nat (abc r.toNat (by omega))
  rw [Int.toNat_of_nonneg h0] at q
  exact q
theorem low_one {k : Nat} (h : k < 26) : Low ⟨#[97 + k]⟩ := fun c hc => by
  have hc : c ∈ [97 + k] := hc
  rw [List.mem_singleton] at hc
  omega
theorem low_app {x y : Str} (a : Low x) (b : Low y) : Low (x ++ y) := fun c hc => by
  rw [tl_app] at hc
  rcases List.mem_append.mp hc with h | h
  · exact a c h
  · exact b c h
theorem join_low {zs : List Str} (h : ∀ z ∈ zs, z.length = 1 ∧ Low z) : (Txt.join "" zs).length = zs.length ∧ Low (Txt.join "" zs) := by
  refine ⟨?_, fun c hc => ?_⟩
  · rw [len_tl, join0]
    induction zs with
    | nil => rfl
    | cons a r ih =>
      rw [List.map_cons, List.flatten_cons, List.length_append, ih fun z hz => h z (List.mem_cons_of_mem _ hz), ← len_tl, (h a (List.mem_cons_self ..)).1, List.length_cons]
      omega
  · rw [join0] at hc
    obtain ⟨l, hl, hc⟩ := List.mem_flatten.mp hc
    obtain ⟨z, hz, rfl⟩ := List.mem_map.mp hl
    exact (h z hz).2 c hc
theorem sum_ones {zs : List Str} (h : ∀ z ∈ zs, z.length = 1) : (zs.map (·.length)).sum = zs.length := by
  induction zs with
  | nil => rfl
  | cons a r ih =>
    rw [List.map_cons, List.sum_cons, ih fun z hz => h z (List.mem_cons_of_mem _ hz), h a (List.mem_cons_self ..), List.length_cons]
    omega
/-- the k-th drawn name -/
def nameAt (b e : Str) (f : Nat) (k : Nat) : Str := b ++ (⟨#[97 + (f + 3 * k) % 26]⟩ : Str) ++ e
theorem nameAt_len (b e : Str) (f k : Nat) : (nameAt b e f k).length = b.length + 1 + e.length := by
  unfold nameAt; rw [len_app, len_app]; rfl
theorem nameAt_low {b e : Str} (hb : Low b) (he : Low e) (f k : Nat) : Low (nameAt b e f k) := low_app (low_app hb (low_one (Nat.mod_lt _ (by decide)))) he
theorem nameAt_inj {b e : Str} {f i j : Nat} (hi : i < 26) (hj : j < 26) (h : nameAt b e f i = nameAt b e f j) : i = j := by
  have h1 : (nameAt b e f i).cps.toList = (nameAt b e f j).cps.toList := by rw [h]
  unfold nameAt at h1
  rw [tl_app, tl_app, tl_app, tl_app] at h1
  have h2 := List.append_cancel_right h1
  have h3 := List.append_cancel_left h2
  have h4 : 97 + (f + 3 * i) % 26 = 97 + (f + 3 * j) % 26 := by
    have h3 : [97 + (f + 3 * i) % 26] = [97 + (f + 3 * j) % 26] := h3
    injection h3
  omega
theorem names_ok {b e : Str} {f m : Nat} (hb : Low b) (he : Low e) (lb : b.length ≤ 3) (le : e.length ≤ 3) (hm : m ≤ 26) : Names ((List.range m).map (nameAt b e f)) := by
  refine ⟨fun x hx => ?_, fun x hx => ?_, fun x hx => ?_, ?_⟩
  · obtain ⟨k, _, rfl⟩ := List.mem_map.mp hx
    exact nameAt_low hb he f k
  · obtain ⟨k, _, rfl⟩ := List.mem_map.mp hx
    rw [nameAt_len]; omega
  · obtain ⟨k, _, rfl⟩ := List.mem_map.mp hx
    rw [nameAt_len]; omega
  · refine List.nodup_iff_pairwise_ne.mpr (List.pairwise_map.mpr ?_)
    refine (List.nodup_iff_pairwise_ne.mp List.nodup_range).imp_of_mem ?_
    intro i j hi hj ne h
    exact ne (nameAt_inj (by have := List.mem_range.mp hi; omega) (by have := List.mem_range.mp hj; omega) h)
end J

/-! ### written terms -/
namespace J
open PySem L2
mutual
def wr : Tm → Str
  | .var n => ("x" : Str) ++ (toString n : String)
  | .app f [] => f
  | .app f (t :: ts) => f ++ ("(" : Str) ++ Txt.join (", " : Str) (wr t :: wrs ts) ++ (")" : Str)
def wrs : List Tm → List Str
  | [] => []
  | t :: ts => wr t :: wrs ts
end
theorem wrs_map : ∀ ts : List Tm, wrs ts = ts.map wr
  | [] => rfl
  | t :: ts => by show wr t :: wrs ts = _; rw [wrs_map ts]; rfl
theorem wr_app (f : Str) (ts : List Tm) (h : ts ≠ []) : wr (.app f ts) = f ++ ("(" : Str) ++ Txt.join (", " : Str) (ts.map wr) ++ (")" : Str) := by
  match ts, h with
  | t :: ts, _ => 
    show f ++ ("(" : Str) ++ Txt.join (", " : Str) (wr t :: wrs ts) ++ (")" : Str) = _
    rw [wrs_map]; rfl
theorem join_len (s : Str) : ∀ zs : List Str, (Txt.join s zs).length ≤ (zs.map (·.length)).sum + zs.length * s.length := by
  intro zs
  rw [TL.join_eq, len_tl]
  show (TL.tl (Str.join s zs)).length ≤ _
  rw [TL.tl_join]
  induction zs with
  | nil => exact Nat.zero_le _
  | cons a r ih =>
    cases r with
    | nil =>
      show (TL.tl a).length ≤ _
      rw [← len_tl, List.map_cons, List.sum_cons]
      omega
    | cons b r =>
      show (TL.tl a ++ (TL.tl s ++ TL.joinL (TL.tl s) ((b :: r).map TL.tl))).length ≤ _
      have e : ((a :: b :: r).map (·.length)).sum + (a :: b :: r).length * s.length = a.length + (s.length + (((b :: r).map (·.length)).sum + (b :: r).length * s.length)) := by
        rw [List.map_cons (l := b :: r), List.sum_cons, List.length_cons (as := b :: r), Nat.add_mul, Nat.one_mul]
        omega
      rw [e, List.length_append, List.length_append, ← len_tl, ← len_tl]
      omega
theorem num_len {n : Int} (h0 : 0 ≤ n) (h1 : n < 1000) : (Str.ofString (toString n)).length ≤ 3 := by
  obtain ⟨k, rfl⟩ := Int.eq_ofNat_of_zero_le h0
  have hk : k < 1000 := by omega
  have q : ∀ k : Nat, k < 1000 → (Str.ofString (toString ((k : Nat) : Int))).length ≤ 3 := by decide +kernel
  exact q k hk
mutual
theorem wr_len {fs : List Str} {B : Int} (hn : Names fs) (hB : B ≤ 1000) : ∀ t : Tm, t.wf fs B → (wr t).length + 2 ≤ 14 * t.sz
  | .var n, w => by
    have w : 0 ≤ n ∧ n < B := w
    have q := num_len w.1 (by omega)
    show (("x" : Str) ++ (Str.ofString (toString n))).length + 2 ≤ 14 * 1
    rw [len_app]
    show 1 + _ + 2 ≤ _
    omega
  | .app f [], w => by
    obtain ⟨⟨k, hk, _⟩, _⟩ := w
    have := hn.hi f (List.mem_of_getElem? hk)
    show f.length + 2 ≤ 14 * (1 + 0)
    omega
  | .app f (t :: ts), w => by
    obtain ⟨⟨k, hk, _⟩, w⟩ := w
    have h1 := hn.hi f (List.mem_of_getElem? hk)
    have h2 := wrs_len hn hB (t :: ts) w
    have h3 := join_len (", " : Str) (wrs (t :: ts))
    have h4 : (", " : Str).length = 2 := by decide +kernel
    show (f ++ ("(" : Str) ++ Txt.join (", " : Str) (wrs (t :: ts)) ++ (")" : Str)).length + 2 ≤ 14 * (1 + Tm.szs (t :: ts))
    rw [len_app, len_app, len_app]
    rw [h4] at h3
    show f.length + 1 + _ + 1 + 2 ≤ _
    omega
theorem wrs_len {fs : List Str} {B : Int} (hn : Names fs) (hB : B ≤ 1000) : ∀ ts : List Tm, Tm.wfs fs B ts → ((wrs ts).map (·.length)).sum + (wrs ts).length * 2 ≤ 14 * Tm.szs ts
  | [], _ => by show 0 + 0 * 2 ≤ _; omega
  | t :: ts, w => by
    have h1 := wr_len hn hB t w.1
    have h2 := wrs_len hn hB ts w.2
    show (wr t).length + ((wrs ts).map (·.length)).sum + ((wrs ts).length + 1) * 2 ≤ 14 * (t.sz + Tm.szs ts)
    omega
end
end J

namespace Lw
open PySem L2 PyProof.Rows J
local macro_rules | `(tactic| walk_at "hp") => `(tactic| first | assumption | exact upd_same)
local macro_rules | `(tactic| walk_at "side") => `(tactic| first
  | (show (0 : Int) < _; decide)
  | exact Or.inr ⟨by decide, by decide⟩
  | exact Or.inl ⟨by decide, by decide⟩
  | exact ⟨by decide, by decide⟩
  | exact ⟨by decide, by decide, by decide⟩
  | (show (_ : Int) ≠ 0; omega)
  | (show _ < _; omega)
  | exact ⟨by omega, by omega⟩
  | exact Or.inl ⟨by omega, by omega⟩
  | exact Or.inr ⟨by omega, by omega⟩)
local macro_rules | `(tactic| walk_at "rd1") => `(tactic| first
  | refine ⟨_, rfl, ?_⟩
  | refine ⟨_, _, rfl, rfl, by walk_at "side", ?_⟩
  | refine ⟨_, _, rfl, rfl, ?_⟩
  | refine .inl ⟨_, rfl, ?_⟩
  | refine ⟨_, _, _, _, rfl, rfl, SqL.of (by walk_at "hp"), by first | assumption | exact at_zero | rfl, ?_⟩
  | refine ⟨_, _, _, _, rfl, rfl, SqT.of (by walk_at "hp"), by first | assumption | exact at_zero | rfl, ?_⟩
  | refine ⟨_, _, rfl, .inl (SqL.of (by walk_at "hp")), ?_⟩
  | refine ⟨_, _, rfl, .inr (SqT.of (by walk_at "hp")), ?_⟩
  | refine ⟨_, _, _, _, rfl, rfl, by walk_at "hp", rfl, ?_⟩
  | refine ⟨rfl, ?_⟩)
local macro_rules | `(tactic| walk_at "rd") => `(tactic| repeat walk_at "rd1")
local macro_rules | `(tactic| walk_at "isi") => `(tactic| first
  | refine ⟨_, _, _, _, true, rfl, .ty _, .base (.int _), kit_ty (by decide +kernel), ?_⟩
  | refine ⟨_, _, _, _, false, rfl, .ty _, .base (.int _), kit_ty (by decide +kernel), ?_⟩
  | refine ⟨_, _, _, _, true, rfl, .ty _, .base (.tup (by walk_at "hp")), kit_ty (by decide +kernel), ?_⟩
  | refine ⟨_, _, _, _, false, rfl, .ty _, .base (.tup (by walk_at "hp")), kit_ty (by decide +kernel), ?_⟩
  | refine ⟨_, _, _, _, true, rfl, .ty _, .base (.lst (by walk_at "hp")), kit_ty (by decide +kernel), ?_⟩
  | refine ⟨_, _, _, _, false, rfl, .ty _, .base (.lst (by walk_at "hp")), kit_ty (by decide +kernel), ?_⟩
  | refine ⟨_, _, _, _, true, rfl, .ty _, .base (.dK (by walk_at "hp")), kit_ty (by decide +kernel), ?_⟩
  | refine ⟨_, _, _, _, false, rfl, .ty _, .base (.dK (by walk_at "hp")), kit_ty (by decide +kernel), ?_⟩
  | refine ⟨_, _, _, _, true, rfl, .ty _, .base (.str _), kit_ty (by decide +kernel), ?_⟩
  | refine ⟨_, _, _, _, false, rfl, .ty _, .base (.str _), kit_ty (by decide +kernel), ?_⟩
  | refine ⟨_, _, _, _, true, rfl, .ty _, .base (.bl _), kit_ty (by decide +kernel), ?_⟩
  | refine ⟨_, _, _, _, false, rfl, .ty _, .base (.bl _), kit_ty (by decide +kernel), ?_⟩
  | refine ⟨_, _, _, _, true, rfl, .ty _, .base (.non), kit_ty (by decide +kernel), ?_⟩
  | refine ⟨_, _, _, _, false, rfl, .ty _, .base (.non), kit_ty (by decide +kernel), ?_⟩)
local macro_rules | `(tactic| walk_at "sl1") => `(tactic| (refine ⟨_, _, rfl, SqT.of (by walk_at "hp"), sl1c _ _, ?_⟩; rw [cut1]))
local macro_rules | `(tactic| walk_at "ri") => `(tactic| repeat (first | walk_at "rd1" | walk_at "isi"))

def topS (i : Nat) : Stmt := PySem.Challenge.pw_joinedends_k10_write_terms.main.body.getD i (.Pass ⟨0, 0, 0, 0⟩)
abbrev s_u_law_state : Stmt := topS 6
theorem sc_u_law_state : FnScope ["script"] ["script"] (defScope s_u_law_state) := ⟨rfl, rfl, rfl, by decide +kernel, rfl, by decide +kernel, by decide +kernel⟩
abbrev s_u_law_mix : Stmt := topS 4
theorem sc_u_law_mix : FnScope ["cell", "number"] ["cell"] (defScope s_u_law_mix) := ⟨rfl, rfl, rfl, by decide +kernel, rfl, by decide +kernel, by decide +kernel⟩
abbrev s_u_law_number : Stmt := topS 5
theorem sc_u_law_number : FnScope ["cell", "first"] ["cell"] (defScope s_u_law_number) := ⟨rfl, rfl, rfl, by decide +kernel, rfl, by decide +kernel, by decide +kernel⟩
abbrev s_u_law_draw : Stmt := topS 7
theorem sc_u_law_draw : FnScope ["state", "many", "value"] ["state", "many"] (defScope s_u_law_draw) := ⟨rfl, rfl, rfl, by decide +kernel, rfl, by decide +kernel, by decide +kernel⟩
abbrev s_u_law_word : Stmt := topS 8
theorem sc_u_law_word : FnScope ["state", "many", "letters", "k"] ["state", "many"] (defScope s_u_law_word) := ⟨rfl, rfl, rfl, by decide +kernel, rfl, by decide +kernel, by decide +kernel⟩
abbrev s_u_law_names : Stmt := topS 9
theorem sc_u_law_names : FnScope ["state", "count", "letters", "before", "behind", "first", "k"] ["state", "count"] (defScope s_u_law_names) := ⟨rfl, rfl, rfl, by decide +kernel, rfl, by decide +kernel, by decide +kernel⟩
abbrev s_u_law_operations : Stmt := topS 10
theorem sc_u_law_operations : FnScope ["state", "names", "arities", "k"] ["state"] (defScope s_u_law_operations) := ⟨rfl, rfl, rfl, by decide +kernel, rfl, by decide +kernel, by decide +kernel⟩
abbrev s_u_law_leaf : Stmt := topS 11
theorem sc_u_law_leaf : FnScope ["state", "operations", "count"] ["state", "operations", "count"] (defScope s_u_law_leaf) := ⟨rfl, rfl, rfl, by decide +kernel, rfl, by decide +kernel, by decide +kernel⟩
abbrev s_u_law_term : Stmt := topS 12
theorem sc_u_law_term : FnScope ["state", "operations", "count", "height", "name", "arity", "term", "k"] ["state", "operations", "count", "height"] (defScope s_u_law_term) := ⟨rfl, rfl, rfl, by decide +kernel, rfl, by decide +kernel, by decide +kernel⟩
abbrev s_u_law_tall : Stmt := topS 13
theorem sc_u_law_tall : FnScope ["state", "operations", "count", "term", "k"] ["state", "operations", "count"] (defScope s_u_law_tall) := ⟨rfl, rfl, rfl, by decide +kernel, rfl, by decide +kernel, by decide +kernel⟩
abbrev s_write_term : Stmt := topS 1
theorem sc_write_term : FnScope ["term", "parts", "argument"] ["term"] (defScope s_write_term) := ⟨rfl, rfl, rfl, by decide +kernel, rfl, by decide +kernel, by decide +kernel⟩
abbrev s_write_equation : Stmt := topS 2
theorem sc_write_equation : FnScope ["left", "right"] ["left", "right"] (defScope s_write_equation) := ⟨rfl, rfl, rfl, by decide +kernel, rfl, by decide +kernel, by decide +kernel⟩
abbrev s_u_law_written : Stmt := topS 14
theorem sc_u_law_written : FnScope ["term", "argument"] ["term"] (defScope s_u_law_written) := ⟨rfl, rfl, rfl, by decide +kernel, rfl, by decide +kernel, by decide +kernel⟩
abbrev s_law : Stmt := topS 15
theorem sc_law : FnScope ["script", "state", "operations", "left", "right"] ["script"] (defScope s_law) := ⟨rfl, rfl, rfl, by decide +kernel, rfl, by decide +kernel, by decide +kernel⟩
structure Ad where
  a_u_law_state : Addr
  d_u_law_state : FuncData
  a_u_law_mix : Addr
  d_u_law_mix : FuncData
  a_u_law_number : Addr
  d_u_law_number : FuncData
  a_u_law_draw : Addr
  d_u_law_draw : FuncData
  a_u_law_word : Addr
  d_u_law_word : FuncData
  a_u_law_names : Addr
  d_u_law_names : FuncData
  a_u_law_operations : Addr
  d_u_law_operations : FuncData
  a_u_law_leaf : Addr
  d_u_law_leaf : FuncData
  a_u_law_term : Addr
  d_u_law_term : FuncData
  a_u_law_tall : Addr
  d_u_law_tall : FuncData
  a_write_term : Addr
  d_write_term : FuncData
  a_write_equation : Addr
  d_write_equation : FuncData
  a_u_law_written : Addr
  d_u_law_written : FuncData
  a_law : Addr
  d_law : FuncData
structure Tx (K : PySem.W.Frag) (mg : Str → Option Value) (A : Ad) : Prop where
  F_u_law_state : Fun K "_law_state" "_law_state" s_u_law_state A.a_u_law_state A.d_u_law_state
  b_u_law_state : Binds K A.d_u_law_state ["script"] []
  m_u_law_state : mg "_law_state" = some (.ref A.a_u_law_state)
  F_u_law_mix : Fun K "_law_mix" "_law_mix" s_u_law_mix A.a_u_law_mix A.d_u_law_mix
  b_u_law_mix : Binds K A.d_u_law_mix ["cell"] []
  m_u_law_mix : mg "_law_mix" = some (.ref A.a_u_law_mix)
  F_u_law_number : Fun K "_law_number" "_law_number" s_u_law_number A.a_u_law_number A.d_u_law_number
  b_u_law_number : Binds K A.d_u_law_number ["cell"] []
  m_u_law_number : mg "_law_number" = some (.ref A.a_u_law_number)
  F_u_law_draw : Fun K "_law_draw" "_law_draw" s_u_law_draw A.a_u_law_draw A.d_u_law_draw
  b_u_law_draw : Binds K A.d_u_law_draw ["state", "many"] []
  m_u_law_draw : mg "_law_draw" = some (.ref A.a_u_law_draw)
  F_u_law_word : Fun K "_law_word" "_law_word" s_u_law_word A.a_u_law_word A.d_u_law_word
  b_u_law_word : Binds K A.d_u_law_word ["state", "many"] []
  m_u_law_word : mg "_law_word" = some (.ref A.a_u_law_word)
  F_u_law_names : Fun K "_law_names" "_law_names" s_u_law_names A.a_u_law_names A.d_u_law_names
  b_u_law_names : Binds K A.d_u_law_names ["state", "count"] []
  m_u_law_names : mg "_law_names" = some (.ref A.a_u_law_names)
  F_u_law_operations : Fun K "_law_operations" "_law_operations" s_u_law_operations A.a_u_law_operations A.d_u_law_operations
  b_u_law_operations : Binds K A.d_u_law_operations ["state"] []
  m_u_law_operations : mg "_law_operations" = some (.ref A.a_u_law_operations)
  F_u_law_leaf : Fun K "_law_leaf" "_law_leaf" s_u_law_leaf A.a_u_law_leaf A.d_u_law_leaf
  b_u_law_leaf : Binds K A.d_u_law_leaf ["state", "operations", "count"] []
  m_u_law_leaf : mg "_law_leaf" = some (.ref A.a_u_law_leaf)
  F_u_law_term : Fun K "_law_term" "_law_term" s_u_law_term A.a_u_law_term A.d_u_law_term
  b_u_law_term : Binds K A.d_u_law_term ["state", "operations", "count", "height"] []
  m_u_law_term : mg "_law_term" = some (.ref A.a_u_law_term)
  F_u_law_tall : Fun K "_law_tall" "_law_tall" s_u_law_tall A.a_u_law_tall A.d_u_law_tall
  b_u_law_tall : Binds K A.d_u_law_tall ["state", "operations", "count"] []
  m_u_law_tall : mg "_law_tall" = some (.ref A.a_u_law_tall)
  F_write_term : Fun K "write_term" "write_term" s_write_term A.a_write_term A.d_write_term
  b_write_term : Binds K A.d_write_term ["term"] []
  m_write_term : mg "write_term" = some (.ref A.a_write_term)
  F_write_equation : Fun K "write_equation" "write_equation" s_write_equation A.a_write_equation A.d_write_equation
  b_write_equation : Binds K A.d_write_equation ["left", "right"] []
  m_write_equation : mg "write_equation" = some (.ref A.a_write_equation)
  F_u_law_written : Fun K "_law_written" "_law_written" s_u_law_written A.a_u_law_written A.d_u_law_written
  b_u_law_written : Binds K A.d_u_law_written ["term"] []
  m_u_law_written : mg "_law_written" = some (.ref A.a_u_law_written)
  F_law : Fun K "law" "law" s_law A.a_law A.d_law
  b_law : Binds K A.d_law ["script"] []
  m_law : mg "law" = some (.ref A.a_law)
  n_int : mg "int" = none
  n_isinstance : mg "isinstance" = none
  n_len : mg "len" = none
  n_list : mg "list" = none
  n_range : mg "range" = none
  n_str : mg "str" = none
section
variable {P : Program} {w : World} {K : PySem.W.Frag} {mg : Str → Option Value} {base : Heap} {A : Ad}
/-! _law_state -/
def sp_u_law_state (K : PySem.W.Frag) : Sp := fun vs H Q _ => ∃ (a : Addr) (ns : List Int), vs = [.ref a] ∧ SqL K H a (ns.map V.int) ∧ ns.length ≤ 63 ∧ ∀ s l H', Same H H' → H s = none → H l = none → St H' s l → Q (.ref s) H'
theorem ok_u_law_state (T : Tx K mg A) : FnOk P w K mg base CX0 1 A.a_u_law_state A.d_u_law_state ["script"] (sp_u_law_state K) := by
  refine T.F_u_law_state.ok sc_u_law_state (fun vs H Q E h => ?_) (fun cdv Ar outer s0 H vs Q E hr h => ?_)
  · obtain ⟨a, ns, rfl, _⟩ := h; rfl
  obtain ⟨a, ns, rfl, hS, h63, q⟩ := h
  refine ⟨_, (pss_one (ps_ret (pe_lst (pa_cons pe_int (pa_cons (pe_callTy (r := rListS K) j_list (by rfl) T.n_list boot_list (pa_cons (pv 0) pa_nil)) (pa_cons pe_int (pa_cons (pe_op op_add pe_int (pe_callB (r := rLenS K) j_len (by rfl) T.n_len PySem.boot_len (pa_cons (pv 0) pa_nil))) pa_nil))))))), ?_⟩
  walk_at "rd"
  refine ⟨a, _, rfl, .inl hS, ?_⟩
  first | intro l n1 | refine fun l n1 => ?_
  generalize ehn : upd H l _ = H1
  have s1 := J.al_same n1 ehn
  have h1 := J.al_at ehn
  clear ehn
  walk_at "rd"
  refine ⟨a, _, rfl, .inl (s1.seq hS), ?_⟩
  walk_at "rd"
  refine ⟨by show 4 ≤ sizeLine; decide, ?_⟩
  first | intro s n2 | refine fun s n2 => ?_
  generalize ehn : upd H1 s _ = H2
  have s2 := J.al_same n2 ehn
  have h2 := J.al_at ehn
  clear ehn
  refine q s l H2 (s1.trans s2) (s1.free n2) n1 ⟨0, 0, _, ns, h2, s2 _ _ h1, Int.le_refl _, Int.natCast_nonneg _, Int.le_refl _, ?_, ?_, h63⟩
  · rw [List.length_map]; omega
  · rw [List.length_map]; omega

/-! _law_mix -/
def sp_u_law_mix : Sp := fun vs H Q _ => ∃ c : Int, vs = [.int c] ∧ ∀ r : Int, 0 ≤ r → r < 2147483647 → Q (.int r) H
theorem ok_u_law_mix (T : Tx K mg A) : FnOk P w K mg base CX0 (1) A.a_u_law_mix A.d_u_law_mix ["cell"] sp_u_law_mix := by
  refine T.F_u_law_mix.ok sc_u_law_mix (fun vs H Q E h => ?_) (fun cdv Ar outer s0 H vs Q E hr h => ?_)
  · obtain ⟨c, rfl, _⟩ := h; rfl
  obtain ⟨c, rfl, q⟩ := h
  refine ⟨_, (pss_cons (ps_set (i := 1) sc_u_law_mix.nd rfl (Or.inl rfl) (pe_op op_mod (pe_callTy call_int1 (by rfl) T.n_int boot_int (pa_cons (pv 0) pa_nil)) pe_int))
    (pss_cons (ps_set (i := 1) sc_u_law_mix.nd rfl (Or.inl rfl) (pe_op op_mod (pe_callTy call_int1 (by rfl) T.n_int boot_int (pa_cons (pe_op op_add (pe_op op_mul (pv 1) pe_int) pe_int) pa_nil)) pe_int))
    (pss_one (ps_ret (pe_op op_mod (pe_callTy call_int1 (by rfl) T.n_int boot_int (pa_cons (pe_op op_add (pe_op op_mul (pv 1) pe_int) pe_int) pa_nil)) pe_int))))), ?_⟩
  walk_at "rd"
  refine q _ (Int.emod_nonneg _ (by decide)) ?_
  show _ % _ < _
  omega

/-! _law_number -/
def sp_u_law_number : Sp := fun vs H Q _ => ∃ c : Int, vs = [.int c] ∧ ∀ r : Int, 0 ≤ r → Q (.int r) H
theorem ok_u_law_number (T : Tx K mg A) : FnOk P w K mg base CX0 (2) A.a_u_law_number A.d_u_law_number ["cell"] sp_u_law_number := by
  have G_u_law_mix := ok_u_law_mix (P := P) (w := w) (base := base) T
  refine T.F_u_law_number.ok sc_u_law_number (fun vs H Q E h => ?_) (fun cdv Ar outer s0 H vs Q E hr h => ?_)
  · obtain ⟨c, rfl, _⟩ := h; rfl
  obtain ⟨c, rfl, q⟩ := h
  refine ⟨_, (pss_cons (ps_if (pt_cmpR op_ge (pv 0) (pe_op op_pow pe_int pe_int) (nomark _)) (pss_one (ps_ret (pv 0))) pss_nil)
    (pss_cons (ps_set (i := 1) sc_u_law_number.nd rfl (Or.inl rfl) (pe_call G_u_law_mix (hr.mono (by omega)) rfl T.m_u_law_mix T.F_u_law_mix.kp T.b_u_law_mix .nil pass0 (pa_cons (pv 0) pa_nil)))
    (pss_one (ps_ret (pe_op op_add (pe_op op_mul (pv 1) pe_int) (pe_call G_u_law_mix (hr.mono (by omega)) rfl T.m_u_law_mix T.F_u_law_mix.kp T.b_u_law_mix .nil pass0 (pa_cons (pe_op op_add (pv 1) (pv 0)) pa_nil))))))), ?_⟩
  walk_at "rd"
  refine ite2 (fun e => ?_) (fun e => ?_)
  · walk_at "rd"
    have e := of_decide_eq_true e
    refine q _ (Int.le_trans ?_ e)
    decide
  · walk_at "rd"
    intro r1 r10 r11
    walk_at "rd"
    intro r2 r20 r21
    walk_at "rd"
    refine q _ ?_
    show 0 ≤ r1 * 2147483629 + r2
    omega

/-! _law_draw -/
def sp_u_law_draw : Sp := fun vs H Q _ => ∃ (s l : Addr) (m : Int), vs = [.ref s, .int m] ∧ St H s l ∧ 1 ≤ m ∧ m < 1073741824 ∧ ∀ r H', 0 ≤ r → r < m → But s H H' → St H' s l → Q (.int r) H'
theorem ok_u_law_draw (T : Tx K mg A) : FnOk P w K mg base CX0 (3) A.a_u_law_draw A.d_u_law_draw ["state", "many"] sp_u_law_draw := by
  have G_u_law_number := ok_u_law_number (P := P) (w := w) (base := base) T
  refine T.F_u_law_draw.ok sc_u_law_draw (fun vs H Q E h => ?_) (fun cdv Ar outer s0 H vs Q E hr h => ?_)
  · obtain ⟨s, l, m, rfl, _⟩ := h; rfl
  obtain ⟨s, l, m, rfl, hst, m1, m2, q⟩ := h
  refine ⟨_, (pss_cons (ps_if (PW.pt (pw_and (pt_cmpR op_lt (pe_ix (r := rIxL K) ix_list (pv 0) pe_int (fun _ _ => rfl)) (pv 1) (nomark _)) (pw_and1 (pt_cmpR op_lt (pe_ix (r := rIxL K) ix_list (pv 0) pe_int (fun _ _ => rfl)) (pe_callB (r := rLenS K) j_len (by rfl) T.n_len PySem.boot_len (pa_cons (pe_ix (r := rIxL K) ix_list (pv 0) pe_int (fun _ _ => rfl)) pa_nil)) (nomark _))))) (pss_cons (ps_asg (pe_call G_u_law_number (hr.mono (by omega)) rfl T.m_u_law_number T.F_u_law_number.kp T.b_u_law_number .nil pass0 (pa_cons (pe_ix (r := rIxL K) ix_list (pe_ix (r := rIxL K) ix_list (pv 0) pe_int (fun _ _ => rfl)) (pe_ix (r := rIxL K) ix_list (pv 0) pe_int (fun _ _ => rfl)) (fun _ _ => rfl)) pa_nil)) (pg_sub (pv 0) pe_int set_list))
    (pss_one (ps_asg (pe_op op_add (pe_ix (r := rIxL K) ix_list (pv 0) pe_int (fun _ _ => rfl)) pe_int) (pg_sub (pv 0) pe_int set_list)))) pss_nil)
    (pss_cons (ps_if (pt_cmpR op_eq (pe_ix (r := rIxL K) ix_list (pv 0) pe_int (fun _ _ => rfl)) pe_int (nomark _)) (pss_cons (ps_asg (pe_op op_mod (pe_callTy call_int1 (by rfl) T.n_int boot_int (pa_cons (pe_op op_add (pe_op op_mul (pe_ix (r := rIxL K) ix_list (pv 0) pe_int (fun _ _ => rfl)) pe_int) pe_int) pa_nil)) pe_int) (pg_sub (pv 0) pe_int set_list))
    (pss_one (ps_ret (pe_op op_modN (pe_callTy call_int1 (by rfl) T.n_int boot_int (pa_cons (pe_op op_fdiv (pe_ix (r := rIxL K) ix_list (pv 0) pe_int (fun _ _ => rfl)) pe_int) pa_nil)) (pv 1))))) pss_nil)
    (pss_cons (ps_set (i := 2) sc_u_law_draw.nd rfl (Or.inl rfl) (pe_op op_modN (pe_callTy call_int1 (by rfl) T.n_int boot_int (pa_cons (pe_ix (r := rIxL K) ix_list (pv 0) pe_int (fun _ _ => rfl)) pa_nil)) (pv 1)))
    (pss_cons (ps_asg (pe_op op_fdivN (pe_ix (r := rIxL K) ix_list (pv 0) pe_int (fun _ _ => rfl)) (pv 1)) (pg_sub (pv 0) pe_int set_list))
    (pss_one (ps_ret (pv 2))))))), ?_⟩
  obtain ⟨v, at0, sd, ns, h1, h2, a0, a1, v0, sd0, sd1, h63⟩ := hst
  have ls : l ≠ s := St.ne_list h1 h2
  refine seq_join (fun σ' H' => σ' = [some (.ref s), some (.int m), none] ∧ But s H H' ∧ ∃ v at0 sd : Int, H' s = some (.lst [.int v, .ref l, .int at0, .int sd]) ∧ H' l = some (.lst (ns.map V.int)) ∧ 0 ≤ at0 ∧ at0 ≤ (ns.length : Int) ∧ 0 ≤ v ∧ 0 ≤ sd ∧ sd < 2147483648) ?_ (fun N cont => ?_)
  · rintro σ' H' ⟨rfl, b1, v, at0, sd, h1, h2, a0, a1, v0, sd0, sd1⟩
    refine seq_join (fun σ' H'' => σ' = [some (.ref s), some (.int m), none] ∧ H'' = H') ?_ (fun N cont => ?_)
    · rintro σ' H'' ⟨rfl, rfl⟩
      walk_at "rd"
      refine q _ _ (fmod_0 m1) (fmod_lt m1) (b1.trans (but_upd _)) ⟨_, at0, sd, ns, upd_same, ?_, a0, a1, ?_, sd0, sd1, h63⟩
      · rw [upd_ne ls]; exact h2
      · exact Int.fdiv_nonneg v0 (by omega)
    · walk_at "rd"
      refine ite2 (fun e => ?_) (fun e => cont _ _ ⟨rfl, rfl⟩)
      walk_at "rd"
      refine q _ _ (fmod_0 m1) (fmod_lt m1) (b1.trans (but_upd _)) ⟨_, at0, _, ns, upd_same, ?_, a0, a1, v0, ?_, ?_, h63⟩
      · rw [upd_ne ls]; exact h2
      · exact Int.emod_nonneg _ (by decide)
      · show (sd * 48271 + 7) % 2147483647 < _
        omega
  · walk_at "rd"
    refine ite2 (fun e => ?_) (fun e => ?_)
    · walk_at "rd"
      refine ite2 (fun e => ?_) (fun e => ?_)
      · have e := of_decide_eq_true e
        rw [List.length_map] at e
        obtain ⟨n, gat⟩ := at_int a0 e
        walk_at "rd"
        intro r r0
        walk_at "rd"

        refine cont _ _ ⟨rfl, (but_upd _).trans (but_upd _), _, _, sd, upd_same, ?_, ?_, ?_, r0, sd0, sd1⟩
        · rw [upd_ne ls, upd_ne ls]; exact h2
        · show 0 ≤ at0 + 1
          omega
        · show at0 + 1 ≤ _
          omega
      · exact cont _ _ ⟨rfl, But.refl _ _, v, at0, sd, h1, h2, a0, a1, v0, sd0, sd1⟩
    · exact cont _ _ ⟨rfl, But.refl _ _, v, at0, sd, h1, h2, a0, a1, v0, sd0, sd1⟩

/-! _law_word -/
def sp_u_law_word : Sp := fun vs H Q _ => ∃ (s l : Addr) (m : Nat), vs = [.ref s, .int (m : Int)] ∧ St H s l ∧ m ≤ 1000 ∧ ∀ z H', But s H H' → St H' s l → z.length = m → Low z → Q (.str z) H'
theorem ok_u_law_word (T : Tx K mg A) : FnOk P w K mg base CX0 (4) A.a_u_law_word A.d_u_law_word ["state", "many"] sp_u_law_word := by
  have G_u_law_draw := ok_u_law_draw (P := P) (w := w) (base := base) T
  refine T.F_u_law_word.ok sc_u_law_word (fun vs H Q E h => ?_) (fun cdv Ar outer s0 H vs Q E hr h => ?_)
  · obtain ⟨s, l, m, rfl, _⟩ := h; rfl
  obtain ⟨s, l, m, rfl, hst, hm, q⟩ := h
  refine ⟨_, (pss_cons (ps_set (i := 2) sc_u_law_word.nd rfl (Or.inr rfl) pe_str)
    (pss_one (ps_ret (pe_join pe_str (pe_lc (own := [("k", 3)]) (by rfl) sc_u_law_word.nd (pi_range1 rfl T.n_range (pa_cons (pv 1) pa_nil)) (blkOk_by (own := [("k", 3)]) (N := ["state", "many", "letters", "k"]) (sc := defScope s_u_law_word) (by decide +kernel)) (fun _ _ _ _ _ => (pg_name (i := 3) sc_u_law_word.nd rfl (Or.inl rfl))) (fun _ _ _ _ _ => pts_nil) (fun _ _ _ _ _ => (pe_ix ix_str (pv 2) (pe_call G_u_law_draw (hr.mono (by omega)) rfl T.m_u_law_draw T.F_u_law_draw.kp T.b_u_law_draw .nil pass0 (pa_cons (pv 0) (pa_cons pe_int pa_nil))) (fun _ _ => rfl)))))))), ?_⟩
  refine ⟨⟨_, rfl⟩, ?_⟩
  walk_at "rd"
  refine ⟨by omega, by omega, fun D hD => ?_⟩
  obtain ⟨sD, lD⟩ := hst.free hD
  refine lc_range (lo := 0) (n := m) (fun i H' => ∃ zs : List Str, H' D = some (.lst (zs.map V.str)) ∧ zs.length = i ∧ (∀ z ∈ zs, z.length = 1 ∧ Low z) ∧ But s H H' ∧ St H' s l) ?_ ?_ ?_
  · exact ⟨[], upd_same, rfl, (fun z hz => nomatch hz), but_same (same_new hD _), hst.upd sD lD⟩
  · rintro i H1 hi ⟨zs, hD1, hl, hz, b1, st1⟩
    refine ⟨rfl, ?_⟩
    walk_at "rd"
    refine ⟨s, l, 26, rfl, st1, by decide, by decide, fun r H2 r0 r1 b2 st2 => ?_⟩
    refine ⟨_, _, _, rfl, rfl, by decide, abc_at r0 r1, ?_⟩
    have hD2 := b2 _ _ hD1 sD.symm
    refine ⟨_, hD2, ?_, zs ++ [⟨#[97 + r.toNat]⟩], ?_, ?_, ?_, (b1.trans b2).mut hD _, st2.upd sD lD⟩
    · rw [List.length_map]; exact Nat.lt_of_le_of_lt (show zs.length ≤ 1000 by omega) (by decide)
    · rw [upd_same, List.map_append]; rfl
    · rw [List.length_append, hl]; rfl
    · intro z hz'
      rcases List.mem_append.mp hz' with h | h
      · exact hz z h
      · rw [List.mem_singleton.mp h]
        exact ⟨rfl, low_one (by omega)⟩
  · rintro H1 ⟨zs, hD1, hl, hz, b1, st1⟩
    have j := join_low hz
    refine ⟨_, _, zs, rfl, rfl, .inl (SqL.of hD1), ?_, q _ _ b1 st1 (by rw [j.1, hl]) j.2⟩
    rw [sum_ones fun z h => (hz z h).1]
    show zs.length + zs.length * 0 ≤ _
    omega

/-! _law_names -/
def sp_u_law_names : Sp := fun vs H Q _ => ∃ (s l : Addr) (m : Nat), vs = [.ref s, .int (m : Int)] ∧ St H s l ∧ m ≤ 26 ∧ ∀ p fs H', But s H H' → St H' s l → H p = none → H' p = some (.lst (fs.map V.str)) → fs.length = m → Names fs → Q (.ref p) H'
theorem ok_u_law_names (T : Tx K mg A) : FnOk P w K mg base CX0 (5) A.a_u_law_names A.d_u_law_names ["state", "count"] sp_u_law_names := by
  have G_u_law_draw := ok_u_law_draw (P := P) (w := w) (base := base) T
  have G_u_law_word := ok_u_law_word (P := P) (w := w) (base := base) T
  refine T.F_u_law_names.ok sc_u_law_names (fun vs H Q E h => ?_) (fun cdv Ar outer s0 H vs Q E hr h => ?_)
  · obtain ⟨s, l, m, rfl, _⟩ := h; rfl
  obtain ⟨s, l, m, rfl, hst, hm, q⟩ := h
  refine ⟨_, (pss_cons (ps_set (i := 2) sc_u_law_names.nd rfl (Or.inr rfl) pe_str)
    (pss_cons (ps_set (i := 3) sc_u_law_names.nd rfl (Or.inr rfl) (pe_call G_u_law_word (hr.mono (by omega)) rfl T.m_u_law_word T.F_u_law_word.kp T.b_u_law_word .nil pass0 (pa_cons (pv 0) (pa_cons (pe_call G_u_law_draw (hr.mono (by omega)) rfl T.m_u_law_draw T.F_u_law_draw.kp T.b_u_law_draw .nil pass0 (pa_cons (pv 0) (pa_cons pe_int pa_nil))) pa_nil))))
    (pss_cons (ps_set (i := 4) sc_u_law_names.nd rfl (Or.inr rfl) (pe_call G_u_law_word (hr.mono (by omega)) rfl T.m_u_law_word T.F_u_law_word.kp T.b_u_law_word .nil pass0 (pa_cons (pv 0) (pa_cons (pe_call G_u_law_draw (hr.mono (by omega)) rfl T.m_u_law_draw T.F_u_law_draw.kp T.b_u_law_draw .nil pass0 (pa_cons (pv 0) (pa_cons pe_int pa_nil))) pa_nil))))
    (pss_cons (ps_set (i := 5) sc_u_law_names.nd rfl (Or.inr rfl) (pe_call G_u_law_draw (hr.mono (by omega)) rfl T.m_u_law_draw T.F_u_law_draw.kp T.b_u_law_draw .nil pass0 (pa_cons (pv 0) (pa_cons pe_int pa_nil))))
    (pss_one (ps_ret (pe_lc (own := [("k", 6)]) (by rfl) sc_u_law_names.nd (pi_range1 rfl T.n_range (pa_cons (pv 1) pa_nil)) (blkOk_by (own := [("k", 6)]) (N := ["state", "count", "letters", "before", "behind", "first", "k"]) (sc := defScope s_u_law_names) (by decide +kernel)) (fun _ _ _ _ _ => (pg_name (i := 6) sc_u_law_names.nd rfl (Or.inl rfl))) (fun _ _ _ _ _ => pts_nil) (fun _ _ _ _ _ => (pe_op op_add_str (pe_op op_add_str (pv 3) (pe_ix ix_str (pv 2) (pe_op op_mod (pe_callTy call_int1 (by rfl) T.n_int boot_int (pa_cons (pe_op op_add (pv 5) (pe_op op_mul pe_int (pv 6))) pa_nil)) pe_int) (fun _ _ => rfl))) (pv 4)))))))))), ?_⟩
  walk_at "rd"
  refine ⟨s, l, 4, rfl, hst, by decide, by decide, fun r1 H1 r10 r11 b1 st1 => ?_⟩
  obtain ⟨k1, rfl⟩ := Int.eq_ofNat_of_zero_le r10
  refine ⟨s, l, k1, rfl, st1, by omega, fun z1 H2 b2 st2 zl1 zw1 => ?_⟩
  walk_at "rd"
  refine ⟨s, l, 4, rfl, st2, by decide, by decide, fun r3 H3 r30 r31 b3 st3 => ?_⟩
  obtain ⟨k3, rfl⟩ := Int.eq_ofNat_of_zero_le r30
  refine ⟨s, l, k3, rfl, st3, by omega, fun z4 H4 b4 st4 zl4 zw4 => ?_⟩
  walk_at "rd"
  refine ⟨s, l, 26, rfl, st4, by decide, by decide, fun r5 H5 r50 r51 b5 st5 => ?_⟩
  obtain ⟨f, rfl⟩ := Int.eq_ofNat_of_zero_le r50
  walk_at "rd"
  refine ⟨by omega, by omega, fun D hD => ?_⟩
  have bb := b1.trans (b2.trans (b3.trans (b4.trans b5)))
  obtain ⟨sD, lD⟩ := st5.free hD
  have hD0 : H D = none := by
    cases e : H D with
    | none => rfl
    | some o =>
      have := bb _ _ e sD.symm
      rw [hD] at this; cases this
  refine lc_range (lo := 0) (n := m) (fun i H' => H' D = some (.lst (((List.range i).map (nameAt z1 z4 f)).map V.str)) ∧ But s H5 H' ∧ St H' s l) ?_ ?_ ?_
  · exact ⟨upd_same, but_same (same_new hD _), st5.upd sD lD⟩
  · rintro i H6 hi ⟨hD6, b6, st6⟩
    refine ⟨rfl, ?_⟩
    walk_at "rd"
    have e : ((f : Int) + 3 * (0 + (i : Int))) % 26 = (((f + 3 * i) % 26 : Nat) : Int) := by omega
    refine ⟨_, _, 97 + (f + 3 * i) % 26, rfl, rfl, by decide, ?_, ?_⟩
    · show atI _ (((f : Int) + 3 * (0 + (i : Int))) % 26) = _
      rw [e]
      exact atI_nat (abc _ (Nat.mod_lt _ (by decide)))
    refine ⟨_, _, rfl, rfl, ?_, ?_⟩
    · show z1.length + 1 ≤ _
      exact Nat.le_trans (show z1.length + 1 ≤ 4 by omega) (by decide)
    walk_at "rd"
    refine ⟨?_, ?_⟩
    · rw [len_app]
      show z1.length + 1 + z4.length ≤ _
      exact Nat.le_trans (show z1.length + 1 + z4.length ≤ 10 by omega) (by decide)
    refine ⟨_, hD6, ?_, ?_, b6.mut hD _, st6.upd sD lD⟩
    · rw [List.length_map, List.length_map, List.length_range]; exact Nat.lt_of_le_of_lt (show i ≤ 26 by omega) (by decide)
    · rw [upd_same, List.range_succ, List.map_append, List.map_append]; rfl
  · rintro H6 ⟨hD6, b6, st6⟩
    refine q D _ H6 (bb.trans b6) st6 hD0 hD6 ?_ (names_ok zw1 zw4 (by omega) (by omega) hm)
    rw [List.length_map, List.length_range]

/-! _law_operations -/
def sp_u_law_operations : Sp := fun vs H Q _ => ∃ (s l : Addr), vs = [.ref s] ∧ St H s l ∧ ∀ o fs H', But s H H' → St H' s l → H o = none → Ops H' o fs → Q (.ref o) H'
theorem ok_u_law_operations (T : Tx K mg A) : FnOk P w K mg base CX0 (6) A.a_u_law_operations A.d_u_law_operations ["state"] sp_u_law_operations := by
  have G_u_law_draw := ok_u_law_draw (P := P) (w := w) (base := base) T
  have G_u_law_names := ok_u_law_names (P := P) (w := w) (base := base) T
  refine T.F_u_law_operations.ok sc_u_law_operations (fun vs H Q E h => ?_) (fun cdv Ar outer s0 H vs Q E hr h => ?_)
  · obtain ⟨s, l, rfl, _⟩ := h; rfl
  obtain ⟨s, l, rfl, hst, q⟩ := h
  refine ⟨_, (pss_cons (ps_set (i := 1) sc_u_law_operations.nd rfl (Or.inr rfl) (pe_call G_u_law_names (hr.mono (by omega)) rfl T.m_u_law_names T.F_u_law_names.kp T.b_u_law_names .nil pass0 (pa_cons (pv 0) (pa_cons pe_int pa_nil))))
    (pss_cons (ps_set (i := 2) sc_u_law_operations.nd rfl (Or.inr rfl) (pe_lst (pa_cons pe_int (pa_cons pe_int (pa_cons pe_int (pa_cons pe_int (pa_cons pe_int pa_nil)))))))
    (pss_one (ps_ret (pe_lc (own := [("k", 3)]) (by rfl) sc_u_law_operations.nd (pi_range1 rfl T.n_range (pa_cons (pe_op op_add pe_int (pe_call G_u_law_draw (hr.mono (by omega)) rfl T.m_u_law_draw T.F_u_law_draw.kp T.b_u_law_draw .nil pass0 (pa_cons (pv 0) (pa_cons pe_int pa_nil)))) pa_nil)) (blkOk_by (own := [("k", 3)]) (N := ["state", "names", "arities", "k"]) (sc := defScope s_u_law_operations) (by decide +kernel)) (fun _ _ _ _ _ => (pg_name (i := 3) sc_u_law_operations.nd rfl (Or.inl rfl))) (fun _ _ _ _ _ => pts_nil) (fun _ _ _ _ _ => (pe_tup (pa_cons (pe_ix (r := rIxL K) ix_list (pv 1) (pv 3) (fun _ _ => rfl)) (pa_cons (pe_ix (r := rIxL K) ix_list (pv 2) (pv 3) (fun _ _ => rfl)) pa_nil))))))))), ?_⟩
  walk_at "rd"
  refine ⟨s, l, 5, rfl, hst, by decide, fun p fs H1 b1 st1 np hp hl hn => ?_⟩
  walk_at "rd"
  refine ⟨by show 5 ≤ sizeLine; decide, ?_⟩
  first | intro ra n2 | refine fun ra n2 => ?_
  generalize ehn : upd H1 ra _ = H2
  have s2 := J.al_same n2 ehn
  have h2 := J.al_at ehn
  clear ehn
  walk_at "rd"
  have st2 := st1.same s2
  refine ⟨s, l, 2, rfl, st2, by decide, by decide, fun r H3 r0 r1 b3 st3 => ?_⟩
  obtain ⟨n, rfl⟩ := Int.eq_ofNat_of_zero_le r0
  walk_at "rd"
  refine ⟨by omega, by omega, fun D hD => ?_⟩
  obtain ⟨sD, lD⟩ := st3.free hD
  have bb := b1.trans ((but_same s2).trans b3)
  have hD0 : H D = none := by
    cases e : H D with
    | none => rfl
    | some o =>
      have := bb _ _ e sD.symm
      rw [hD] at this; cases this
  have nra : ra ≠ s := (st1.free n2).1.symm
  have hp3 : H3 p = some (.lst (fs.map V.str)) := b3 _ _ (s2 _ _ hp) fun z => by
    rw [z] at np
    exact (hst.free np).1 rfl
  have hra3 := b3 _ _ h2 nra
  refine lc_range (lo := 0) (n := 4 + n) (fun i H' => ∃ as : List Addr, H' D = some (.lst (as.map V.ref)) ∧ as.length = i ∧ Same H3 H' ∧ ∀ (k : Nat) (f : Str) (a : Addr), fs[k]? = some f → as[k]? = some a → H' a = some (.tup [.str f, .int (ar k)])) ?_ ?_ ?_
  · exact ⟨[], upd_same, rfl, same_new hD _, fun k f a _ e => by simp at e⟩
  · rintro i H6 hi ⟨as, hD6, hl6, s6, ht⟩
    refine ⟨rfl, ?_⟩
    have hi5 : i < fs.length := by omega
    have gf : (fs.map V.str)[i]? = some (.str fs[i]) := by rw [List.getElem?_map, List.getElem?_eq_getElem hi5]; rfl
    have e0 : (0 : Int) + (i : Int) = (i : Int) := by omega
    walk_at "rd"
    refine ⟨p, _, _, _, rfl, rfl, SqL.of (s6 _ _ hp3), by rw [e0]; exact atI_nat gf, ?_⟩
    walk_at "rd"
    have ga : ([.int 0, .int 0, .int 1, .int 2, .int 3] : List V)[i]? = some (.int (ar i)) := by
      match i, hi5, hl with
      | 0, _, _ => rfl
      | 1, _, _ => rfl
      | 2, _, _ => rfl
      | 3, _, _ => rfl
      | 4, _, _ => rfl
      | j + 5, h5, hl => omega
    refine ⟨ra, _, _, _, rfl, rfl, SqL.of (s6 _ _ hra3), by rw [e0]; exact atI_nat ga, ?_⟩
    walk_at "rd"
    refine ⟨by show 2 ≤ sizeLine; decide, ?_⟩
    first | intro t n7 | refine fun t n7 => ?_
    generalize ehn : upd H6 t _ = H7
    have s7 := J.al_same n7 ehn
    have h7 := J.al_at ehn
    clear ehn
    refine ⟨_, s7 _ _ hD6, ?_, as ++ [t], ?_, ?_, ?_, ?_⟩
    · rw [List.length_map]; exact Nat.lt_of_le_of_lt (show as.length ≤ 5 by omega) (by decide)
    · rw [upd_same, List.map_append]; rfl
    · rw [List.length_append, hl6]; rfl
    · exact same_mut (s6.trans s7) hD _
    · intro k f a hf ha
      have ntD : ∀ b xs, H7 b = some (.tup xs) → b ≠ D := fun b xs e z => by
        rw [z, s7 _ _ hD6] at e; cases e
      by_cases hk : k < as.length
      · rw [List.getElem?_append_left hk] at ha
        have q := s7 _ _ (ht k f a hf ha)
        rw [upd_ne (ntD _ _ q)]; exact q
      · have ek : k = i := by
          have := (List.getElem?_eq_some_iff.mp ha).1
          rw [List.length_append, List.length_singleton] at this
          omega
        subst ek
        rw [List.getElem?_append_right (by omega), hl6, Nat.sub_self] at ha
        have ea : t = a := by simpa using ha
        subst ea
        rw [List.getElem?_eq_getElem hi5] at hf
        injection hf with hf
        subst hf
        rw [upd_ne (ntD _ _ h7)]; exact h7
  · rintro H6 ⟨as, hD6, hl6, s6, ht⟩
    have hn' : Names (fs.take (4 + n)) := ⟨fun f h => hn.low f (List.mem_of_mem_take h), fun f h => hn.lo f (List.mem_of_mem_take h), fun f h => hn.hi f (List.mem_of_mem_take h), hn.nd.sublist (List.take_sublist _ _)⟩
    have hl' : (fs.take (4 + n)).length = 4 + n := by rw [List.length_take, hl]; omega
    refine q D (fs.take (4 + n)) H6 (bb.trans (but_same s6)) (st3.same s6) hD0 ⟨hn', by omega, as, hD6, by omega, fun k f a hf ha => ?_⟩
    have hk : k < 4 + n := by
      have := (List.getElem?_eq_some_iff.mp ha).1
      omega
    rw [List.getElem?_take_of_lt hk] at hf
    exact ht k f a hf ha

/-! _law_leaf -/
def sp_u_law_leaf : Sp := fun vs H Q _ => ∃ (s l o : Addr) (fs : List Str) (B : Int), vs = [.ref s, .ref o, .int B] ∧ St H s l ∧ Ops H o fs ∧ 0 ≤ B ∧ B < 1073741824 ∧ ∀ v t H', But s H H' → St H' s l → TmIn H' t v → t.wf fs B → t.dep ≤ 1 → t.sz = 1 → Q v H'
theorem ok_u_law_leaf (T : Tx K mg A) : FnOk P w K mg base CX0 (4) A.a_u_law_leaf A.d_u_law_leaf ["state", "operations", "count"] sp_u_law_leaf := by
  have G_u_law_draw := ok_u_law_draw (P := P) (w := w) (base := base) T
  refine T.F_u_law_leaf.ok sc_u_law_leaf (fun vs H Q E h => ?_) (fun cdv Ar outer s0 H vs Q E hr h => ?_)
  · obtain ⟨s, l, o, fs, B, rfl, _⟩ := h; rfl
  obtain ⟨s, l, o, fs, B, rfl, hst, hop, B0, B1, q⟩ := h
  refine ⟨_, (pss_cons (ps_if (PW.pt (pw_and (pt_cmpR op_gt (pv 2) pe_int (nomark _)) (pw_and1 (pt_cmpR op_eq (pe_call G_u_law_draw (hr.mono (by omega)) rfl T.m_u_law_draw T.F_u_law_draw.kp T.b_u_law_draw .nil pass0 (pa_cons (pv 0) (pa_cons pe_int pa_nil))) pe_int (nomark _))))) (pss_one (ps_ret (pe_call G_u_law_draw (hr.mono (by omega)) rfl T.m_u_law_draw T.F_u_law_draw.kp T.b_u_law_draw .nil pass0 (pa_cons (pv 0) (pa_cons (pv 2) pa_nil))))) pss_nil)
    (pss_one (ps_ret (pe_tup (pa_cons (pe_ix (r := rIxT K) ix_tup (pe_ix (r := rIxL K) ix_list (pv 1) (pe_call G_u_law_draw (hr.mono (by omega)) rfl T.m_u_law_draw T.F_u_law_draw.kp T.b_u_law_draw .nil pass0 (pa_cons (pv 0) (pa_cons pe_int pa_nil))) (fun _ _ => rfl)) pe_int (fun _ _ => rfl)) pa_nil))))), ?_⟩
  refine seq_join (fun σ' H' => σ' = [some (.ref s), some (.ref o), some (.int B)] ∧ But s H H' ∧ St H' s l) ?_ (fun N cont => ?_)
  · rintro σ' H1 ⟨rfl, b1, st1⟩
    have op1 := hop.but hst b1
    walk_at "rd"
    refine ⟨s, l, 2, rfl, st1, by decide, by decide, fun r H2 r0 r1 b2 st2 => ?_⟩
    have op2 := op1.but st1 b2
    obtain ⟨n, rfl⟩ := Int.eq_ofNat_of_zero_le r0
    obtain ⟨xs, a, f, ho, hl, hx, hf, ha⟩ := op2.get (k := n) (by have := op2.2.1; omega)
    refine ⟨o, _, _, _, rfl, rfl, SqL.of ho, atI_nat hx, ?_⟩
    walk_at "rd"
    refine ⟨by show 1 ≤ sizeLine; decide, ?_⟩
    first | intro p n3 | refine fun p n3 => ?_
    generalize ehn : upd H2 p _ = H3
    have s3 := J.al_same n3 ehn
    have h3 := J.al_at ehn
    clear ehn
    refine q (.ref p) (.app f []) H3 (b1.trans (b2.trans (but_same s3))) (st2.same s3) ⟨p, [], rfl, h3, rfl⟩ ⟨⟨n, hf, ?_⟩, trivial⟩ (Nat.le_refl _) rfl
    show 0 = ar n
    unfold ar
    rw [if_pos (by omega)]
  · walk_at "rd"
    refine ite2 (fun e => ?_) (fun e => ?_)
    · have e := of_decide_eq_true e
      walk_at "rd"
      refine ⟨s, l, 2, rfl, hst, by decide, by decide, fun r H2 r0 r1 b2 st2 => ?_⟩
      walk_at "rd"
      refine ite2 (fun e2 => ?_) (fun e2 => ?_)
      · walk_at "rd"
        refine ⟨s, l, B, rfl, st2, by omega, B1, fun r3 H3 r30 r31 b3 st3 => ?_⟩
        exact q _ (.var r3) H3 (b2.trans b3) st3 rfl ⟨r30, r31⟩ (Nat.le_refl _) rfl
      · exact cont _ _ ⟨rfl, b2, st2⟩
    · exact cont _ _ ⟨rfl, But.refl _ _, hst⟩

/-! _law_term -/
def sp_u_law_term (N : Nat) : Sp := fun vs H Q _ => ∃ (s l o : Addr) (fs : List Str) (B : Int) (h : Nat), h < N ∧ vs = [.ref s, .ref o, .int B, .int (h : Int)] ∧ St H s l ∧ Ops H o fs ∧ 0 ≤ B ∧ B < 1073741824 ∧
  ∀ v t H', But s H H' → St H' s l → TmIn H' t v → t.wf fs B → t.dep ≤ h + 1 → 2 * t.sz + 1 ≤ 3 ^ (h + 1) → Q v H'
theorem st_u_law_term (T : Tx K mg A) (N : Nat) (G_u_law_term : FnOk P w K mg base CX0 (N + 5) A.a_u_law_term A.d_u_law_term ["state", "operations", "count", "height"] (sp_u_law_term N)) : FnOk P w K mg base CX0 (N + 6) A.a_u_law_term A.d_u_law_term ["state", "operations", "count", "height"] (sp_u_law_term (N + 1)) := by
  have G_u_law_draw := ok_u_law_draw (P := P) (w := w) (base := base) T
  have G_u_law_leaf := ok_u_law_leaf (P := P) (w := w) (base := base) T
  refine T.F_u_law_term.ok sc_u_law_term (fun vs H Q E h => ?_) (fun cdv Ar outer s0 H vs Q E hr h => ?_)
  · obtain ⟨s, l, o, fs, B, h, hN, rfl, _⟩ := h; rfl
  obtain ⟨s, l, o, fs, B, h, hN, rfl, hst, hop, B0, B1, q⟩ := h
  refine ⟨_, (pss_cons (ps_if (PW.pt (pw_or (pt_cmpR op_eq (pv 3) pe_int (nomark _)) (pw_or1 (pt_cmpR op_eq (pe_call G_u_law_draw (hr.mono (by omega)) rfl T.m_u_law_draw T.F_u_law_draw.kp T.b_u_law_draw .nil pass0 (pa_cons (pv 0) (pa_cons pe_int pa_nil))) pe_int (nomark _))))) (pss_one (ps_ret (pe_call G_u_law_leaf (hr.mono (by omega)) rfl T.m_u_law_leaf T.F_u_law_leaf.kp T.b_u_law_leaf .nil pass0 (pa_cons (pv 0) (pa_cons (pv 1) (pa_cons (pv 2) pa_nil)))))) pss_nil)
    (pss_cons (ps_asg (pe_ix (r := rIxL K) ix_list (pv 1) (pe_op op_add pe_int (pe_call G_u_law_draw (hr.mono (by omega)) rfl T.m_u_law_draw T.F_u_law_draw.kp T.b_u_law_draw .nil pass0 (pa_cons (pv 0) (pa_cons (pe_op op_sub (pe_callB (r := rLenS K) j_len (by rfl) T.n_len PySem.boot_len (pa_cons (pv 1) pa_nil)) pe_int) pa_nil)))) (fun _ _ => rfl)) (pg_tup (by rfl) (pgs_cons (pg_name (i := 4) sc_u_law_term.nd rfl (Or.inl rfl)) (pgs_cons (pg_name (i := 5) sc_u_law_term.nd rfl (Or.inl rfl)) pgs_nil))))
    (pss_cons (ps_set (i := 6) sc_u_law_term.nd rfl (Or.inl rfl) (pe_tup (pa_cons (pv 4) pa_nil)))
    (pss_cons (ps_for PassesOwn.never rfl (pi_range1 rfl T.n_range (pa_cons (pv 5) pa_nil)) (pg_name (i := 7) sc_u_law_term.nd rfl (Or.inl rfl)) (pss_one (ps_set (i := 6) sc_u_law_term.nd rfl (Or.inl rfl) (pe_op (r := rCatT K) op_catT (pv 6) (pe_tup (pa_cons (pe_call G_u_law_term (hr.mono (by omega)) rfl T.m_u_law_term T.F_u_law_term.kp T.b_u_law_term .nil pass0 (pa_cons (pv 0) (pa_cons (pv 1) (pa_cons (pv 2) (pa_cons (pe_op op_sub (pv 3) pe_int) pa_nil))))) pa_nil))))))
    (pss_one (ps_ret (pv 6))))))), ?_⟩
  refine seq_join (fun σ' H' => σ' = [some (.ref s), some (.ref o), some (.int B), some (.int (h : Int)), none, none, none, none] ∧ But s H H' ∧ St H' s l ∧ 1 ≤ h) ?_ (fun N' cont => ?_)
  · rintro σ' H1 ⟨rfl, b1, st1, h1⟩
    have op1 := hop.but hst b1
    have hfl := op1.2.1
    obtain ⟨xs1, _, _, ho1, hxl, _⟩ := op1.get (k := 0) (by omega)
    walk_at "rd"
    refine ⟨s, l, _, rfl, st1, by show (1 : Int) ≤ (xs1.length : Int) - 2; omega, by show (xs1.length : Int) - 2 < _; omega, fun r H2 r0 r1 b2 st2 => ?_⟩
    have r1 : r < (xs1.length : Int) - 2 := r1
    have op2 := op1.but st1 b2
    obtain ⟨n, rfl⟩ := Int.eq_ofNat_of_zero_le r0
    obtain ⟨xs, a, f, ho, hl, hx, hf, ha⟩ := op2.get (k := n + 2) (by omega)
    have e2 : (2 : Int) + (n : Int) = ((n + 2 : Nat) : Int) := by omega
    refine ⟨_, _, rfl, rfl, ?_⟩
    refine ⟨o, _, _, _, rfl, rfl, SqL.of ho, by rw [e2]; exact atI_nat hx, ?_⟩
    refine ⟨a, _, rfl, SqT.of ha, rfl, _, _, rfl, _, _, rfl, rfl, ?_⟩
    walk_at "rd"
    refine ⟨by show 1 ≤ sizeLine; decide, ?_⟩
    first | intro p n3 | refine fun p n3 => ?_
    generalize ehn : upd H2 p _ = H3
    have s3 := J.al_same n3 ehn
    have h3 := J.al_at ehn
    clear ehn
    have har : ar (n + 2) = n + 1 := by unfold ar; rw [if_neg (by omega)]; rfl
    have st3 := st2.same s3
    have op3 := op2.same s3
    walk_at "rd"
    refine ⟨by omega, by omega, for_range (lo := 0) (n := ar (n + 2)) (fun i σ' H' => ∃ p ts vs x, σ' = [some (.ref s), some (.ref o), some (.int B), some (.int (h : Int)), some (.str f), some (.int (ar (n + 2) : Int)), some (.ref p), x] ∧ H' p = some (.tup (.str f :: vs)) ∧ TmsIn H' ts vs ∧ ts.length = i ∧ (∀ t ∈ ts, t.wf fs B ∧ t.dep ≤ h ∧ 2 * t.sz + 1 ≤ 3 ^ h) ∧ But s H3 H' ∧ St H' s l) ?_ ?_ ?_⟩
    · exact ⟨p, [], [], none, rfl, h3, rfl, rfl, (fun t ht => nomatch ht), But.refl _ _, st3⟩
    · rintro i σ' H4 hi ⟨p, ts, vs, x, rfl, hp, hts, hl', hw, b4, st4⟩
      walk_at "rd"
      refine ⟨s, l, o, fs, B, h - 1, by omega, by have e : ((h - 1 : Nat) : Int) = (h : Int) - 1 := by omega
                                                  rw [e]; rfl, st4, op3.but st3 b4, B0, B1, fun v t H5 b5 st5 ht htw htd hts' => ?_⟩
      refine ⟨by show 1 ≤ sizeLine; decide, ?_⟩
      first | intro u n6 | refine fun u n6 => ?_
      generalize ehn : upd H5 u _ = H6
      have s6 := J.al_same n6 ehn
      have h6 := J.al_at ehn
      clear ehn
      have tu45 := st4.tu b5
      have hlen : vs.length = i := by rw [hts.length, hl']
      refine ⟨p, u, _, _, rfl, rfl, SqT.of (s6 _ _ (tu45 _ _ hp)), SqT.of h6, List.cons_ne_nil _ _, ?_, fun z => absurd z (List.cons_ne_nil _ _), fun _ => ?_⟩
      · rw [List.length_cons, hlen]
        exact Nat.le_trans (show i + 1 + 1 ≤ 10 by omega) (by decide)
      first | intro y n7 | refine fun y n7 => ?_
      generalize ehn : upd H6 y _ = H7
      have s7 := J.al_same n7 ehn
      have h7 := J.al_at ehn
      clear ehn
      have tu67 : Tu H4 H7 := tu45.trans ((tu_same s6).trans (tu_same s7))
      refine ⟨y, ts ++ [t], vs ++ [v], _, rfl, h7, (hts.tu tu67).append (TmsIn.one ((ht.tu (tu_same s6)).tu (tu_same s7))), ?_, ?_, b4.trans (b5.trans ((but_same s6).trans (but_same s7))), (st5.same s6).same s7⟩
      · rw [List.length_append, hl']; rfl
      · intro t' ht'
        rcases List.mem_append.mp ht' with z | z
        · exact hw t' z
        · rw [List.mem_singleton.mp z]
          rw [show h - 1 + 1 = h by omega] at hts' htd
          exact ⟨htw, htd, hts'⟩
    · rintro σ' H4 ⟨p, ts, vs, x, rfl, hp, hts, hl', hw, b4, st4⟩
      walk_at "rd"
      refine q (.ref p) (.app f ts) H4 (b1.trans (b2.trans ((but_same s3).trans b4))) st4 ⟨p, vs, rfl, hp, hts⟩ ⟨⟨n + 2, hf, hl'⟩, Tm.wfs_of fun t ht => (hw t ht).1⟩ ?_ ?_
      · have := Tm.deps_le fun t ht => (hw t ht).2.1
        show 1 + Tm.deps ts ≤ h + 1
        omega
      · exact Tm.szs_three (by omega) fun t ht => (hw t ht).2.2
  · walk_at "rd"
    refine ite2 (fun e => ?_) (fun e => ?_)
    · walk_at "rd"
      refine ⟨s, l, o, fs, B, rfl, hst, hop, B0, B1, fun v t H1 b1 st1 ht hw hd hz => q v t H1 b1 st1 ht hw (by omega) (by rw [hz]; exact Nat.pow_le_pow_right (by decide : 3 > 0) (show 1 ≤ h + 1 by omega))⟩
    · have e : ¬ V.int (h : Int) = V.int 0 := fun z => e (decide_eq_true z)
      have h1 : 1 ≤ h := by
        rcases Nat.eq_zero_or_pos h with z | z
        · rw [z] at e; exact absurd rfl e
        · exact z
      walk_at "rd"
      refine ⟨s, l, 4, rfl, hst, by decide, by decide, fun r H2 r0 r1 b2 st2 => ?_⟩
      walk_at "rd"
      refine ite2 (fun e => ?_) (fun e => ?_)
      · walk_at "rd"
        refine ⟨s, l, o, fs, B, rfl, st2, hop.but hst b2, B0, B1, fun v t H1 b1 st1 ht hw hd hz => q v t H1 (b2.trans b1) st1 ht hw (by omega) (by rw [hz]; exact Nat.pow_le_pow_right (by decide : 3 > 0) (show 1 ≤ h + 1 by omega))⟩
      · exact cont _ _ ⟨rfl, b2, st2, h1⟩

theorem all_u_law_term (T : Tx K mg A) : ∀ N : Nat, FnOk P w K mg base CX0 (N + 5) A.a_u_law_term A.d_u_law_term ["state", "operations", "count", "height"] (sp_u_law_term N)
  | 0 => fn_none fun vs H Q E h => by obtain ⟨s, l, o, fs, B, h, hN, _⟩ := h; omega
  | N + 1 => st_u_law_term T N (all_u_law_term T N)
theorem ok_u_law_term (T : Tx K mg A) : FnOk P w K mg base CX0 10 A.a_u_law_term A.d_u_law_term ["state", "operations", "count", "height"] (sp_u_law_term 5) := all_u_law_term T 5

/-! _law_tall -/
def sp_u_law_tall : Sp := fun vs H Q _ => ∃ (s l o : Addr) (fs : List Str) (B : Int), vs = [.ref s, .ref o, .int B] ∧ St H s l ∧ Ops H o fs ∧ 0 ≤ B ∧ B < 1073741824 ∧
  ∀ v t H', But s H H' → St H' s l → TmIn H' t v → t.wf fs B → t.dep ≤ 30 → t.sz ≤ 146 → Q v H'
theorem ok_u_law_tall (T : Tx K mg A) : FnOk P w K mg base CX0 (11) A.a_u_law_tall A.d_u_law_tall ["state", "operations", "count"] sp_u_law_tall := by
  have G_u_law_draw := ok_u_law_draw (P := P) (w := w) (base := base) T
  have G_u_law_term := ok_u_law_term (P := P) (w := w) (base := base) T
  refine T.F_u_law_tall.ok sc_u_law_tall (fun vs H Q E h => ?_) (fun cdv Ar outer s0 H vs Q E hr h => ?_)
  · obtain ⟨s, l, o, fs, B, rfl, _⟩ := h; rfl
  obtain ⟨s, l, o, fs, B, rfl, hst, hop, B0, B1, q⟩ := h
  refine ⟨_, (pss_cons (ps_set (i := 3) sc_u_law_tall.nd rfl (Or.inl rfl) (pe_call G_u_law_term (hr.mono (by omega)) rfl T.m_u_law_term T.F_u_law_term.kp T.b_u_law_term .nil pass0 (pa_cons (pv 0) (pa_cons (pv 1) (pa_cons (pv 2) (pa_cons pe_int pa_nil))))))
    (pss_cons (ps_if (pt_cmpR op_eq (pe_call G_u_law_draw (hr.mono (by omega)) rfl T.m_u_law_draw T.F_u_law_draw.kp T.b_u_law_draw .nil pass0 (pa_cons (pv 0) (pa_cons pe_int pa_nil))) pe_int (nomark _)) (pss_one (ps_for PassesOwn.never rfl (pi_range1 rfl T.n_range (pa_cons (pe_call G_u_law_draw (hr.mono (by omega)) rfl T.m_u_law_draw T.F_u_law_draw.kp T.b_u_law_draw .nil pass0 (pa_cons (pv 0) (pa_cons pe_int pa_nil))) pa_nil)) (pg_name (i := 4) sc_u_law_tall.nd rfl (Or.inl rfl)) (pss_one (ps_set (i := 3) sc_u_law_tall.nd rfl (Or.inl rfl) (pe_tup (pa_cons (pe_ix (r := rIxT K) ix_tup (pe_ix (r := rIxL K) ix_list (pv 1) pe_int (fun _ _ => rfl)) pe_int (fun _ _ => rfl)) (pa_cons (pv 3) pa_nil))))))) pss_nil)
    (pss_one (ps_ret (pv 3))))), ?_⟩
  walk_at "rd"
  refine ⟨s, l, o, fs, B, 4, by decide, rfl, hst, hop, B0, B1, fun v t H1 b1 st1 ht hw hd hz => ?_⟩
  have hz : 2 * t.sz + 1 ≤ 243 := hz
  walk_at "rd"
  refine ⟨s, l, 4, rfl, st1, by decide, by decide, fun r H2 r0 r1 b2 st2 => ?_⟩
  walk_at "rd"
  have op2 := (hop.but hst b1).but st1 b2
  have ht2 := ht.tu (st1.tu b2)
  refine ite2 (fun e => ?_) (fun e => ?_)
  · walk_at "rd"
    refine ⟨s, l, 26, rfl, st2, by decide, by decide, fun r3 H3 r30 r31 b3 st3 => ?_⟩
    obtain ⟨n, rfl⟩ := Int.eq_ofNat_of_zero_le r30
    have op3 := op2.but st2 b3
    refine ⟨_, rfl, by omega, by omega, for_range (lo := 0) (n := n) (fun i σ' H' => ∃ v t x, σ' = [some (.ref s), some (.ref o), some (.int B), some v, x] ∧ TmIn H' t v ∧ t.wf fs B ∧ t.dep ≤ 5 + i ∧ t.sz ≤ 121 + i ∧ Same H3 H') ?_ ?_ ?_⟩
    · exact ⟨v, t, none, rfl, ht2.tu (st2.tu b3), hw, hd, by omega, Same.refl _⟩
    · rintro i σ' H4 hi ⟨v, t, x, rfl, ht, hw, hd, hz', s4⟩
      have op4 := op3.same s4
      obtain ⟨xs, a, f, ho, hl, hx, hf, ha⟩ := op4.get (k := 2) (by have := op4.2.1; omega)
      walk_at "rd"
      refine ⟨o, _, _, _, rfl, rfl, SqL.of ho, atI_nat (j := 2) hx, ?_⟩
      walk_at "rd"
      refine ⟨by show 2 ≤ sizeLine; decide, ?_⟩
      first | intro p n5 | refine fun p n5 => ?_
      generalize ehn : upd H4 p _ = H5
      have s5 := J.al_same n5 ehn
      have h5 := J.al_at ehn
      clear ehn
      refine ⟨.ref p, .app f [t], _, rfl, ⟨p, [v], rfl, h5, TmsIn.one (ht.tu (tu_same s5))⟩, ⟨⟨2, hf, rfl⟩, hw, trivial⟩, ?_, ?_, s4.trans s5⟩
      · show 1 + max t.dep 0 ≤ _
        omega
      · show 1 + (t.sz + 0) ≤ _
        omega
    · rintro σ' H4 ⟨v, t, x, rfl, ht, hw, hd, hz', s4⟩
      walk_at "rd"
      exact q v t H4 (b1.trans (b2.trans (b3.trans (but_same s4)))) (st3.same s4) ht hw (by omega) (by omega)
  · walk_at "rd"
    exact q v t H2 (b1.trans b2) st2 ht2 hw (by omega) (by omega)

/-! write_term -/
def sp_write_term (N : Nat) : Sp := fun vs H Q _ => ∃ (v : V) (t : Tm) (fs : List Str) (B : Int), vs = [v] ∧ TmIn H t v ∧ t.wf fs B ∧ Names fs ∧ B ≤ 1000 ∧ t.sz ≤ 1000 ∧ t.dep ≤ N ∧ ∀ H', Same H H' → Q (.str (wr t)) H'
theorem st_write_term (T : Tx K mg A) (N : Nat) (G_write_term : FnOk P w K mg base CX0 (N + 1) A.a_write_term A.d_write_term ["term"] (sp_write_term N)) : FnOk P w K mg base CX0 (N + 2) A.a_write_term A.d_write_term ["term"] (sp_write_term (N + 1)) := by

  refine T.F_write_term.ok sc_write_term (fun vs H Q E h => ?_) (fun cdv Ar outer s0 H vs Q E hr h => ?_)
  · obtain ⟨v, t, fs, B, rfl, _⟩ := h; rfl
  obtain ⟨v, t, fs, B, rfl, ht, hw, hn, hB, hz, hd, q⟩ := h
  refine ⟨_, (pss_cons (ps_if (pt_val (pe_callB (r := rIsi K) call_isi (by rfl) T.n_isinstance boot_isinstance (pa_cons (pv 0) (pa_cons (pe_bltn (v := .ty "int") (by rfl) T.n_int boot_int rfl) pa_nil)))) (pss_one (ps_ret (pe_joined (.cons pe_str (.cons (pe_fmt (pv 0)) .nil))))) pss_nil)
    (pss_cons (ps_if (pt_cmpR op_eq (pe_callB (r := rLenS K) j_len (by rfl) T.n_len PySem.boot_len (pa_cons (pv 0) pa_nil)) pe_int (nomark _)) (pss_one (ps_ret (pe_ix (r := rIxT K) ix_tup (pv 0) pe_int (fun _ _ => rfl)))) pss_nil)
    (pss_cons (ps_set (i := 1) sc_write_term.nd rfl (Or.inl rfl) (pe_lst pa_nil))
    (pss_cons (ps_for PassesOwn.never rfl (pi_tup (pe_slice (r := rSlT K) sl_tup (pv 0) (po_some pe_int) po_none)) (pg_name (i := 2) sc_write_term.nd rfl (Or.inl rfl)) (pss_one (ps_expr (pe_bm PySem.F.plainAttrs_list PySem.F.slot_list_append PySem.F.type_list_append mt_append (pv 1) (pa_cons (pe_call G_write_term (hr.mono (by omega)) rfl T.m_write_term T.F_write_term.kp T.b_write_term .nil pass0 (pa_cons (pv 2) pa_nil)) pa_nil)))))
    (pss_one (ps_ret (pe_op op_add_str (pe_op op_add_str (pe_op op_add_str (pe_ix (r := rIxT K) ix_tup (pv 0) pe_int (fun _ _ => rfl)) pe_str) (pe_join pe_str (pv 1))) pe_str))))))), ?_⟩
  cases t with
  | var n =>
    cases (show v = .int n from ht)
    have hw : 0 ≤ n ∧ n < B := hw
    walk_at "rd"
    walk_at "isi"
    walk_at "rd"
    refine ⟨by decide, ?_⟩
    refine ⟨_, rfl, .inr ⟨n, rfl, ?_, ?_⟩⟩
    · have : n.natAbs < 1000 := by omega
      exact Nat.lt_of_le_of_lt (Nat.log2_le_self _) (by omega)
    · refine ⟨_, rfl, ?_, q _ (Same.refl _)⟩
      have e := wr_len hn hB (.var n) hw
      exact Nat.le_trans (show (wr (.var n)).length ≤ 20 by have e : _ ≤ 14 * 1 := e; omega) (by decide)
  | app f ts =>
    obtain ⟨a, vs, rfl, ha, hts⟩ := ht
    have hvl := hts.length
    walk_at "rd"
    walk_at "isi"
    walk_at "rd"
    refine ifEq (fun e => ?_) (fun e => ?_)
    · have e : ((vs.length + 1 : Nat) : Int) = 1 := e
      have ets : ts = [] := List.length_eq_zero_iff.mp (by omega)
      subst ets
      walk_at "rd"
      exact q _ (Same.refl _)
    · have e : ((vs.length + 1 : Nat) : Int) ≠ 1 := e
      have nts : ts ≠ [] := fun z => by rw [z] at hvl; exact e (by rw [hvl]; rfl)
      walk_at "rd"
      refine ⟨by show 0 ≤ sizeLine; decide, ?_⟩
      first | intro p n1 | refine fun p n1 => ?_
      generalize ehn : upd H p _ = H1
      have s1 := J.al_same n1 ehn
      have h1 := J.al_at ehn
      clear ehn
      walk_at "rd"
      replace ha := s1 _ _ ha
      walk_at "sl1"
      first | intro u n2 | refine fun u n2 => ?_
      generalize ehn : upd H1 u _ = H2
      have s2 := J.al_same n2 ehn
      have h2 := J.al_at ehn
      clear ehn
      have hts2 := (hts.tu (tu_same s1)).tu (tu_same s2)
      refine ⟨_, rfl, ⟨_, SqT.of h2⟩, for_tup (xs := vs) (fun i σ' H' => ∃ x, σ' = [some (.ref a), some (.ref p), x] ∧ H' p = some (.lst (((ts.take i).map wr).map V.str)) ∧ But p H2 H') ?_ ?_ ?_ ?_⟩
      · exact ⟨none, rfl, s2 _ _ h1, But.refl _ _⟩
      · rintro i σ' H' hi ⟨x, rfl, hp, b⟩
        exact SqT.of (b _ _ h2 fun z => by rw [z, s2 _ _ h1] at h2; cases h2)
      · rintro i y σ' H' hi ⟨x, rfl, hp, b⟩
        obtain ⟨t, gt, ht⟩ := hts2.get hi
        have mt : t ∈ ts := List.mem_of_getElem? gt
        have hz' : 1 + Tm.szs ts ≤ 1000 := hz
        have := Tm.sz_arg mt
        walk_at "rd"
        refine ⟨.inl ⟨rfl, _, SqL.of hp⟩, ?_⟩
        walk_at "rd"
        refine ⟨y, t, fs, B, rfl, ht.tu (but_tu b (lst_not_tup (s2 _ _ h1))), Tm.wf_of_mem hw.2 mt, hn, hB, by omega, TmIn.dep_arg hd mt, fun H3 s3 => ?_⟩
        refine ⟨p, _, _, rfl, rfl, s3 _ _ hp, ?_, _, rfl, ?_, (b.trans (but_same s3)).upd _⟩
        · rw [List.length_map, List.length_map, List.length_take]
          have h3 := Tm.len_le ts
          exact Nat.lt_of_le_of_lt (show min i ts.length ≤ 1000 by omega) (by decide)
        · rw [upd_same, list_take_succ gt, List.map_append, List.map_append]; rfl
      · rintro σ' H' ⟨x, rfl, hp, b⟩
        rw [hvl, List.take_length] at hp
        have kk : Same H H' := b.same (s1.trans s2) n1
        have ha' := b _ _ (s2 _ _ ha) fun z => by rw [z, h1] at ha; cases ha
        have wl := wr_len hn hB (.app f ts) hw
        rw [wr_app f ts nts, len_app, len_app, len_app] at wl
        have h4 : (", " : Str).length = 2 := by decide +kernel
        have h5 : ("(" : Str).length = 1 := by decide +kernel
        have h6 : (")" : Str).length = 1 := by decide +kernel
        rw [h5, h6] at wl
        walk_at "rd"
        refine ⟨by rw [h5]; exact Nat.le_trans (show f.length + 1 ≤ 20000 by omega) (by decide), ?_⟩
        refine ⟨⟨_, rfl⟩, ?_⟩
        walk_at "rd"
        refine ⟨_, p, ts.map wr, rfl, rfl, .inl (SqL.of hp), ?_, ?_⟩
        · have h7 := wrs_len hn hB ts hw.2
          rw [wrs_map, List.length_map] at h7
          rw [h4, List.length_map]
          have hz' : 1 + Tm.szs ts ≤ 1000 := hz
          omega
        refine ⟨_, _, rfl, rfl, ?_, ?_⟩
        · rw [len_app, h5]
          exact Nat.le_trans (show f.length + 1 + (Txt.join (", " : Str) (ts.map wr)).length ≤ 20000 by omega) (by decide)
        walk_at "rd"
        refine ⟨?_, ?_⟩
        · rw [len_app, len_app, h5, h6]
          exact Nat.le_trans (show f.length + 1 + (Txt.join (", " : Str) (ts.map wr)).length + 1 ≤ 20000 by omega) (by decide)
        rw [← wr_app f ts nts]
        exact q _ kk

theorem all_write_term (T : Tx K mg A) : ∀ N : Nat, FnOk P w K mg base CX0 (N + 1) A.a_write_term A.d_write_term ["term"] (sp_write_term N)
  | 0 => fn_none fun vs H Q E h => by obtain ⟨v, t, fs, B, _, _, _, _, _, _, hd, _⟩ := h; have := t.dep_pos; omega
  | N + 1 => st_write_term T N (all_write_term T N)
theorem ok_write_term (T : Tx K mg A) : FnOk P w K mg base CX0 41 A.a_write_term A.d_write_term ["term"] (sp_write_term 40) := all_write_term T 40

/-! write_equation -/
def sp_write_equation : Sp := fun vs H Q _ => ∃ (v u : V) (t r : Tm) (fs : List Str) (B : Int), vs = [v, u] ∧ TmIn H t v ∧ TmIn H r u ∧ t.wf fs B ∧ r.wf fs B ∧ Names fs ∧ B ≤ 1000 ∧ t.sz ≤ 1000 ∧ r.sz ≤ 1000 ∧ t.dep ≤ 40 ∧ r.dep ≤ 40 ∧ ∀ H', Same H H' → Q (.str (wr t ++ (" = " : Str) ++ wr r)) H'
theorem ok_write_equation (T : Tx K mg A) : FnOk P w K mg base CX0 (42) A.a_write_equation A.d_write_equation ["left", "right"] sp_write_equation := by
  have G_write_term := ok_write_term (P := P) (w := w) (base := base) T
  refine T.F_write_equation.ok sc_write_equation (fun vs H Q E h => ?_) (fun cdv Ar outer s0 H vs Q E hr h => ?_)
  · obtain ⟨v, u, t, r, fs, B, rfl, _⟩ := h; rfl
  obtain ⟨v, u, t, r, fs, B, rfl, ht, hr', wt, wr', hn, hB, zt, zr, dt, dr, q⟩ := h
  refine ⟨_, (pss_one (ps_ret (pe_op op_add_str (pe_op op_add_str (pe_call G_write_term (hr.mono (by omega)) rfl T.m_write_term T.F_write_term.kp T.b_write_term .nil pass0 (pa_cons (pv 0) pa_nil)) pe_str) (pe_call G_write_term (hr.mono (by omega)) rfl T.m_write_term T.F_write_term.kp T.b_write_term .nil pass0 (pa_cons (pv 1) pa_nil))))), ?_⟩
  have l1 := wr_len hn hB t wt
  have l2 := wr_len hn hB r wr'
  have h3 : (" = " : Str).length = 3 := by decide +kernel
  walk_at "rd"
  refine ⟨v, t, fs, B, rfl, ht, wt, hn, hB, zt, dt, fun H1 s1 => ?_⟩
  walk_at "rd"
  refine ⟨by rw [h3]; exact Nat.le_trans (show (wr t).length + 3 ≤ 40000 by omega) (by decide), ?_⟩
  walk_at "rd"
  refine ⟨u, r, fs, B, rfl, hr'.tu (tu_same s1), wr', hn, hB, zr, dr, fun H2 s2 => ?_⟩
  refine ⟨_, _, rfl, rfl, ?_, q _ (s1.trans s2)⟩
  rw [len_app, h3]
  exact Nat.le_trans (show (wr t).length + 3 + (wr r).length ≤ 40000 by omega) (by decide)

/-! _law_written -/
def sp_u_law_written (N : Nat) : Sp := fun vs H Q _ => ∃ (v : V) (t : Tm) (fs : List Str) (B : Int), vs = [v] ∧ TmIn H t v ∧ t.wf fs B ∧ Names fs ∧ B ≤ 1000 ∧ t.sz ≤ 1000 ∧ t.dep ≤ N ∧ ∀ H', Same H H' → Q (.str (wr t)) H'
theorem st_u_law_written (T : Tx K mg A) (N : Nat) (G_u_law_written : FnOk P w K mg base CX0 (N + 1) A.a_u_law_written A.d_u_law_written ["term"] (sp_u_law_written N)) : FnOk P w K mg base CX0 (N + 2) A.a_u_law_written A.d_u_law_written ["term"] (sp_u_law_written (N + 1)) := by

  refine T.F_u_law_written.ok sc_u_law_written (fun vs H Q E h => ?_) (fun cdv Ar outer s0 H vs Q E hr h => ?_)
  · obtain ⟨v, t, fs, B, rfl, _⟩ := h; rfl
  obtain ⟨v, t, fs, B, rfl, ht, hw, hn, hB, hz, hd, q⟩ := h
  refine ⟨_, (pss_cons (ps_if (pt_val (pe_callB (r := rIsi K) call_isi (by rfl) T.n_isinstance boot_isinstance (pa_cons (pv 0) (pa_cons (pe_bltn (v := .ty "int") (by rfl) T.n_int boot_int rfl) pa_nil)))) (pss_one (ps_ret (pe_op op_add_str pe_str (pe_callTy call_str_int (by rfl) T.n_str boot_str (pa_cons (pv 0) pa_nil))))) pss_nil)
    (pss_cons (ps_if (pt_cmpR op_eq (pe_callB (r := rLenS K) j_len (by rfl) T.n_len PySem.boot_len (pa_cons (pv 0) pa_nil)) pe_int (nomark _)) (pss_one (ps_ret (pe_ix (r := rIxT K) ix_tup (pv 0) pe_int (fun _ _ => rfl)))) pss_nil)
    (pss_one (ps_ret (pe_op op_add_str (pe_op op_add_str (pe_op op_add_str (pe_ix (r := rIxT K) ix_tup (pv 0) pe_int (fun _ _ => rfl)) pe_str) (pe_join pe_str (pe_lc (own := [("argument", 1)]) (by rfl) sc_u_law_written.nd (pi_tup (pe_slice (r := rSlT K) sl_tup (pv 0) (po_some pe_int) po_none)) (blkOk_by (own := [("argument", 1)]) (N := ["term", "argument"]) (sc := defScope s_u_law_written) (by decide +kernel)) (fun _ _ _ _ _ => (pg_name (i := 1) sc_u_law_written.nd rfl (Or.inl rfl))) (fun _ _ _ _ _ => pts_nil) (fun _ _ _ _ _ => (pe_call G_u_law_written (hr.mono (by omega)) rfl T.m_u_law_written T.F_u_law_written.kp T.b_u_law_written .nil pass0 (pa_cons (pv 1) pa_nil)))))) pe_str))))), ?_⟩
  have wl := wr_len hn hB t hw
  have h1000 : (wr t).length ≤ 20000 := by omega
  cases t with
  | var n =>
    cases (show v = .int n from ht)
    have hw : 0 ≤ n ∧ n < B := hw
    walk_at "rd"
    walk_at "isi"
    walk_at "rd"
    refine ⟨?_, ?_⟩
    · have : n.natAbs < 1000 := by omega
      exact Nat.lt_of_le_of_lt (Nat.log2_le_self _) (by omega)
    · refine ⟨_, _, rfl, rfl, ?_, q _ (Same.refl _)⟩
      have h1000 : (("x" : Str) ++ (Str.ofString (toString n))).length ≤ 20000 := h1000
      rw [len_app] at h1000
      exact Nat.le_trans h1000 (by decide)
  | app f ts =>
    obtain ⟨a, vs, rfl, ha, hts⟩ := ht
    have hvl := hts.length
    walk_at "rd"
    walk_at "isi"
    walk_at "rd"
    refine ifEq (fun e => ?_) (fun e => ?_)
    · have e : ((vs.length + 1 : Nat) : Int) = 1 := e
      have ets : ts = [] := List.length_eq_zero_iff.mp (by omega)
      subst ets
      walk_at "rd"
      exact q _ (Same.refl _)
    · have e : ((vs.length + 1 : Nat) : Int) ≠ 1 := e
      have nts : ts ≠ [] := fun z => by rw [z] at hvl; exact e (by rw [hvl]; rfl)
      rw [wr_app f ts nts, len_app, len_app, len_app] at wl
      have h4 : (", " : Str).length = 2 := by decide +kernel
      have h5 : ("(" : Str).length = 1 := by decide +kernel
      have h6 : (")" : Str).length = 1 := by decide +kernel
      rw [h5, h6] at wl
      walk_at "rd"
      refine ⟨by rw [h5]; exact Nat.le_trans (show f.length + 1 ≤ 20000 by omega) (by decide), ?_⟩
      refine ⟨⟨_, rfl⟩, ?_⟩
      walk_at "rd"
      walk_at "sl1"
      first | intro u n2 | refine fun u n2 => ?_
      generalize ehn : upd H u _ = H2
      have s2 := J.al_same n2 ehn
      have h2 := J.al_at ehn
      clear ehn
      have hts2 := hts.tu (tu_same s2)
      refine ⟨_, rfl, ⟨_, SqT.of h2⟩, fun D hD => ?_⟩
      refine lc_tup (xs := vs) (fun i H' => H' D = some (.lst (((ts.take i).map wr).map V.str)) ∧ Same H2 H') ?_ ?_ ?_ ?_
      · exact ⟨upd_same, same_new hD _⟩
      · rintro i H' hi ⟨hp, b⟩
        exact SqT.of (b _ _ h2)
      · rintro i y H' hi ⟨hp, b⟩
        obtain ⟨t, gt, ht⟩ := hts2.get hi
        have mt : t ∈ ts := List.mem_of_getElem? gt
        have hz' : 1 + Tm.szs ts ≤ 1000 := hz
        have := Tm.sz_arg mt
        refine ⟨rfl, ?_⟩
        walk_at "rd"
        refine ⟨y, t, fs, B, rfl, ht.tu (tu_same b), Tm.wf_of_mem hw.2 mt, hn, hB, by omega, TmIn.dep_arg hd mt, fun H3 s3 => ?_⟩
        refine ⟨_, s3 _ _ hp, ?_, ?_, same_mut (b.trans s3) hD _⟩
        · rw [List.length_map, List.length_map, List.length_take]
          have h3 := Tm.len_le ts
          exact Nat.lt_of_le_of_lt (show min i ts.length ≤ 1000 by omega) (by decide)
        · rw [upd_same, list_take_succ gt, List.map_append, List.map_append]; rfl
      · rintro H' ⟨hp, b⟩
        rw [hvl, List.take_length] at hp
        refine ⟨_, D, ts.map wr, rfl, rfl, .inl (SqL.of hp), ?_, ?_⟩
        · have h7 := wrs_len hn hB ts hw.2
          rw [wrs_map, List.length_map] at h7
          rw [h4, List.length_map]
          have hz' : 1 + Tm.szs ts ≤ 1000 := hz
          omega
        refine ⟨_, _, rfl, rfl, ?_, ?_⟩
        · rw [len_app, h5]
          exact Nat.le_trans (show f.length + 1 + (Txt.join (", " : Str) (ts.map wr)).length ≤ 20000 by omega) (by decide)
        walk_at "rd"
        refine ⟨?_, ?_⟩
        · rw [len_app, len_app, h5, h6]
          exact Nat.le_trans (show f.length + 1 + (Txt.join (", " : Str) (ts.map wr)).length + 1 ≤ 20000 by omega) (by decide)
        rw [← wr_app f ts nts]
        exact q _ (s2.trans b)

theorem all_u_law_written (T : Tx K mg A) : ∀ N : Nat, FnOk P w K mg base CX0 (N + 1) A.a_u_law_written A.d_u_law_written ["term"] (sp_u_law_written N)
  | 0 => fn_none fun vs H Q E h => by obtain ⟨v, t, fs, B, _, _, _, _, _, _, hd, _⟩ := h; have := t.dep_pos; omega
  | N + 1 => st_u_law_written T N (all_u_law_written T N)
theorem ok_u_law_written (T : Tx K mg A) : FnOk P w K mg base CX0 41 A.a_u_law_written A.d_u_law_written ["term"] (sp_u_law_written 40) := all_u_law_written T 40

/-! law -/
def sp_law (K : PySem.W.Frag) : Sp := fun vs H Q _ => ∃ (a : Addr) (ns : List Int), vs = [.ref a] ∧ SqL K H a (ns.map V.int) ∧ ns.length ≤ 63 ∧ ∀ H', Q (.bl true) H'
theorem ok_law (T : Tx K mg A) : FnOk P w K mg base CX0 60 A.a_law A.d_law ["script"] (sp_law K) := by
  have G_u_law_draw := ok_u_law_draw (P := P) (w := w) (base := base) T
  have G_u_law_operations := ok_u_law_operations (P := P) (w := w) (base := base) T
  have G_u_law_state := ok_u_law_state (P := P) (w := w) (base := base) T
  have G_u_law_tall := ok_u_law_tall (P := P) (w := w) (base := base) T
  have G_u_law_written := ok_u_law_written (P := P) (w := w) (base := base) T
  have G_write_equation := ok_write_equation (P := P) (w := w) (base := base) T
  have G_write_term := ok_write_term (P := P) (w := w) (base := base) T
  refine T.F_law.ok sc_law (fun vs H Q E h => ?_) (fun cdv Ar outer s0 H vs Q E hr h => ?_)
  · obtain ⟨a, ns, rfl, _⟩ := h; rfl
  obtain ⟨a, ns, rfl, hS, h63, q⟩ := h
  refine ⟨_, (pss_cons (ps_set (i := 1) sc_law.nd rfl (Or.inl rfl) (pe_call G_u_law_state (hr.mono (by omega)) rfl T.m_u_law_state T.F_u_law_state.kp T.b_u_law_state .nil pass0 (pa_cons (pv 0) pa_nil)))
    (pss_cons (ps_set (i := 2) sc_law.nd rfl (Or.inl rfl) (pe_call G_u_law_operations (hr.mono (by omega)) rfl T.m_u_law_operations T.F_u_law_operations.kp T.b_u_law_operations .nil pass0 (pa_cons (pv 1) pa_nil)))
    (pss_cons (ps_set (i := 3) sc_law.nd rfl (Or.inl rfl) (pe_call G_u_law_tall (hr.mono (by omega)) rfl T.m_u_law_tall T.F_u_law_tall.kp T.b_u_law_tall .nil pass0 (pa_cons (pv 1) (pa_cons (pv 2) (pa_cons (pe_call G_u_law_draw (hr.mono (by omega)) rfl T.m_u_law_draw T.F_u_law_draw.kp T.b_u_law_draw .nil pass0 (pa_cons (pv 1) (pa_cons pe_int pa_nil))) pa_nil)))))
    (pss_cons (ps_set (i := 4) sc_law.nd rfl (Or.inl rfl) (pe_call G_u_law_tall (hr.mono (by omega)) rfl T.m_u_law_tall T.F_u_law_tall.kp T.b_u_law_tall .nil pass0 (pa_cons (pv 1) (pa_cons (pv 2) (pa_cons (pe_call G_u_law_draw (hr.mono (by omega)) rfl T.m_u_law_draw T.F_u_law_draw.kp T.b_u_law_draw .nil pass0 (pa_cons (pv 1) (pa_cons pe_int pa_nil))) pa_nil)))))
    (pss_cons (ps_if (PW.pt (pw_or (pt_cmpR op_ne (pe_call G_write_term (hr.mono (by omega)) rfl T.m_write_term T.F_write_term.kp T.b_write_term .nil pass0 (pa_cons (pv 3) pa_nil)) (pe_call G_u_law_written (hr.mono (by omega)) rfl T.m_u_law_written T.F_u_law_written.kp T.b_u_law_written .nil pass0 (pa_cons (pv 3) pa_nil)) (nomark _)) (pw_or1 (pt_cmpR op_ne (pe_call G_write_term (hr.mono (by omega)) rfl T.m_write_term T.F_write_term.kp T.b_write_term .nil pass0 (pa_cons (pv 4) pa_nil)) (pe_call G_u_law_written (hr.mono (by omega)) rfl T.m_u_law_written T.F_u_law_written.kp T.b_u_law_written .nil pass0 (pa_cons (pv 4) pa_nil)) (nomark _))))) (pss_one (ps_ret pe_bl)) pss_nil)
    (pss_one (ps_ret (pe_cmpR op_eq (pe_call G_write_equation (hr.mono (by omega)) rfl T.m_write_equation T.F_write_equation.kp T.b_write_equation .nil pass0 (pa_cons (pv 3) (pa_cons (pv 4) pa_nil))) (pe_op op_add_str (pe_op op_add_str (pe_call G_u_law_written (hr.mono (by omega)) rfl T.m_u_law_written T.F_u_law_written.kp T.b_u_law_written .nil pass0 (pa_cons (pv 3) pa_nil)) pe_str) (pe_call G_u_law_written (hr.mono (by omega)) rfl T.m_u_law_written T.F_u_law_written.kp T.b_u_law_written .nil pass0 (pa_cons (pv 4) pa_nil))) (nomark _))))))))), ?_⟩
  walk_at "rd"
  refine ⟨a, ns, rfl, hS, h63, fun s l H1 s1 n1 _ st1 => ?_⟩
  walk_at "rd"
  refine ⟨s, l, rfl, st1, fun o fs H2 b2 st2 no op2 => ?_⟩
  walk_at "rd"
  refine ⟨s, l, 21, rfl, st2, by decide, by decide, fun B1 H3 B10 B11 b3 st3 => ?_⟩
  have op3 := op2.but st2 b3
  refine ⟨s, l, o, fs, B1, rfl, st3, op3, B10, by omega, fun v t H4 b4 st4 ht wt dt zt => ?_⟩
  have op4 := op3.but st3 b4
  walk_at "rd"
  refine ⟨s, l, 21, rfl, st4, by decide, by decide, fun B2 H5 B20 B21 b5 st5 => ?_⟩
  have op5 := op4.but st4 b5
  have ht5 := ht.tu (st4.tu b5)
  refine ⟨s, l, o, fs, B2, rfl, st5, op5, B20, by omega, fun u r H6 b6 st6 hr6 wr6 dr zr => ?_⟩
  have ht6 := ht5.tu (st5.tu b6)
  have hn := op5.1
  have wt := wt.mono (B' := 1000) (by omega)
  have wr6 := wr6.mono (B' := 1000) (by omega)
  have l1 := wr_len hn (by decide) t wt
  have l2 := wr_len hn (by decide) r wr6
  have h3 : (" = " : Str).length = 3 := by decide +kernel
  walk_at "rd"
  refine ⟨v, t, fs, 1000, rfl, ht6, wt, hn, by decide, by omega, by omega, fun H7 s7 => ?_⟩
  walk_at "rd"
  refine ⟨v, t, fs, 1000, rfl, ht6.tu (tu_same s7), wt, hn, by decide, by omega, by omega, fun H8 s8 => ?_⟩
  walk_at "rd"
  refine ifNeS (fun e => absurd rfl e) (fun _ => ?_)
  have tu68 := tu_same (s7.trans s8)
  walk_at "rd"
  refine ⟨u, r, fs, 1000, rfl, hr6.tu tu68, wr6, hn, by decide, by omega, by omega, fun H9 s9 => ?_⟩
  walk_at "rd"
  refine ⟨u, r, fs, 1000, rfl, (hr6.tu tu68).tu (tu_same s9), wr6, hn, by decide, by omega, by omega, fun H10 s10 => ?_⟩
  walk_at "rd"
  refine ifNeS (fun e => absurd rfl e) (fun _ => ?_)
  have tu610 := tu68.trans ((tu_same s9).trans (tu_same s10))
  walk_at "rd"
  refine ⟨v, u, t, r, fs, 1000, rfl, ht6.tu tu610, hr6.tu tu610, wt, wr6, hn, by decide, by omega, by omega, by omega, by omega, fun H11 s11 => ?_⟩
  have tu611 := tu610.trans (tu_same s11)
  walk_at "rd"
  refine ⟨v, t, fs, 1000, rfl, ht6.tu tu611, wt, hn, by decide, by omega, by omega, fun H12 s12 => ?_⟩
  walk_at "rd"
  refine ⟨by rw [h3]; exact Nat.le_trans (show (wr t).length + 3 ≤ 40000 by omega) (by decide), ?_⟩
  walk_at "rd"
  refine ⟨u, r, fs, 1000, rfl, (hr6.tu tu611).tu (tu_same s12), wr6, hn, by decide, by omega, by omega, fun H13 s13 => ?_⟩
  refine ⟨_, _, rfl, rfl, ?_, ?_⟩
  · rw [len_app, h3]
    exact Nat.le_trans (show (wr t).length + 3 + (wr r).length ≤ 40000 by omega) (by decide)
  refine ⟨rfl, ?_⟩
  show Q (.bl (decide (_ = _))) _
  rw [decide_eq_true rfl]
  exact q _

end
theorem all_mk {l : PySem.W.OpenLaw} {w : World} {K : PySem.W.Frag} {h : Heap} {mg : Str → Option Value} {fa : Addr} (X : K.In h) (G : h.Ns mainGlobals mg) (hfa : mg "law" = some (.ref fa))
    {f0 f1 f2 f3 f4 f5 f6 f7 f8 f9 f10 f11 f12 f13 : Addr} {od0 an0 od1 an1 od2 an2 od3 an3 od4 an4 od5 an5 od6 an6 od7 an7 od8 an8 od9 an9 od10 an10 od11 an11 od12 an12 od13 an13 : Option Addr} {sl0 sl1 sl2 sl3 sl4 sl5 sl6 sl7 sl8 sl9 sl10 sl11 sl12 sl13 : Array (Option Value)} {oc0 kV0 dc0 pm0 cd0 ct0 oc1 kV1 dc1 pm1 cd1 ct1 oc2 kV2 dc2 pm2 cd2 ct2 oc3 kV3 dc3 pm3 cd3 ct3 oc4 kV4 dc4 pm4 cd4 ct4 oc5 kV5 dc5 pm5 cd5 ct5 oc6 kV6 dc6 pm6 cd6 ct6 oc7 kV7 dc7 pm7 cd7 ct7 oc8 kV8 dc8 pm8 cd8 ct8 oc9 kV9 dc9 pm9 cd9 ct9 oc10 kV10 dc10 pm10 cd10 ct10 oc11 kV11 dc11 pm11 cd11 ct11 oc12 kV12 dc12 pm12 cd12 ct12 oc13 kV13 dc13 pm13 cd13 ct13 : Value}
    (a0 : PySem.W.nsIn K mainGlobals "_law_state" = some (some (.ref f0))) (l0 : K.lookup f0 = some ⟨oc0, od0, .func (PySem.W.fnOf "_law_state" "_law_state" (defArgs s_u_law_state) (defBody s_u_law_state) (defScope s_u_law_state) .none kV0 dc0 pm0 an0 cd0 ct0), sl0⟩) (e0 : PySem.W.codeIn K cd0 "_law_state" = true) (k0 : PySem.W.keepIn K (.ref f0) = true)
    (a1 : PySem.W.nsIn K mainGlobals "_law_mix" = some (some (.ref f1))) (l1 : K.lookup f1 = some ⟨oc1, od1, .func (PySem.W.fnOf "_law_mix" "_law_mix" (defArgs s_u_law_mix) (defBody s_u_law_mix) (defScope s_u_law_mix) .none kV1 dc1 pm1 an1 cd1 ct1), sl1⟩) (e1 : PySem.W.codeIn K cd1 "_law_mix" = true) (k1 : PySem.W.keepIn K (.ref f1) = true)
    (a2 : PySem.W.nsIn K mainGlobals "_law_number" = some (some (.ref f2))) (l2 : K.lookup f2 = some ⟨oc2, od2, .func (PySem.W.fnOf "_law_number" "_law_number" (defArgs s_u_law_number) (defBody s_u_law_number) (defScope s_u_law_number) .none kV2 dc2 pm2 an2 cd2 ct2), sl2⟩) (e2 : PySem.W.codeIn K cd2 "_law_number" = true) (k2 : PySem.W.keepIn K (.ref f2) = true)
    (a3 : PySem.W.nsIn K mainGlobals "_law_draw" = some (some (.ref f3))) (l3 : K.lookup f3 = some ⟨oc3, od3, .func (PySem.W.fnOf "_law_draw" "_law_draw" (defArgs s_u_law_draw) (defBody s_u_law_draw) (defScope s_u_law_draw) .none kV3 dc3 pm3 an3 cd3 ct3), sl3⟩) (e3 : PySem.W.codeIn K cd3 "_law_draw" = true) (k3 : PySem.W.keepIn K (.ref f3) = true)
    (a4 : PySem.W.nsIn K mainGlobals "_law_word" = some (some (.ref f4))) (l4 : K.lookup f4 = some ⟨oc4, od4, .func (PySem.W.fnOf "_law_word" "_law_word" (defArgs s_u_law_word) (defBody s_u_law_word) (defScope s_u_law_word) .none kV4 dc4 pm4 an4 cd4 ct4), sl4⟩) (e4 : PySem.W.codeIn K cd4 "_law_word" = true) (k4 : PySem.W.keepIn K (.ref f4) = true)
    (a5 : PySem.W.nsIn K mainGlobals "_law_names" = some (some (.ref f5))) (l5 : K.lookup f5 = some ⟨oc5, od5, .func (PySem.W.fnOf "_law_names" "_law_names" (defArgs s_u_law_names) (defBody s_u_law_names) (defScope s_u_law_names) .none kV5 dc5 pm5 an5 cd5 ct5), sl5⟩) (e5 : PySem.W.codeIn K cd5 "_law_names" = true) (k5 : PySem.W.keepIn K (.ref f5) = true)
    (a6 : PySem.W.nsIn K mainGlobals "_law_operations" = some (some (.ref f6))) (l6 : K.lookup f6 = some ⟨oc6, od6, .func (PySem.W.fnOf "_law_operations" "_law_operations" (defArgs s_u_law_operations) (defBody s_u_law_operations) (defScope s_u_law_operations) .none kV6 dc6 pm6 an6 cd6 ct6), sl6⟩) (e6 : PySem.W.codeIn K cd6 "_law_operations" = true) (k6 : PySem.W.keepIn K (.ref f6) = true)
    (a7 : PySem.W.nsIn K mainGlobals "_law_leaf" = some (some (.ref f7))) (l7 : K.lookup f7 = some ⟨oc7, od7, .func (PySem.W.fnOf "_law_leaf" "_law_leaf" (defArgs s_u_law_leaf) (defBody s_u_law_leaf) (defScope s_u_law_leaf) .none kV7 dc7 pm7 an7 cd7 ct7), sl7⟩) (e7 : PySem.W.codeIn K cd7 "_law_leaf" = true) (k7 : PySem.W.keepIn K (.ref f7) = true)
    (a8 : PySem.W.nsIn K mainGlobals "_law_term" = some (some (.ref f8))) (l8 : K.lookup f8 = some ⟨oc8, od8, .func (PySem.W.fnOf "_law_term" "_law_term" (defArgs s_u_law_term) (defBody s_u_law_term) (defScope s_u_law_term) .none kV8 dc8 pm8 an8 cd8 ct8), sl8⟩) (e8 : PySem.W.codeIn K cd8 "_law_term" = true) (k8 : PySem.W.keepIn K (.ref f8) = true)
    (a9 : PySem.W.nsIn K mainGlobals "_law_tall" = some (some (.ref f9))) (l9 : K.lookup f9 = some ⟨oc9, od9, .func (PySem.W.fnOf "_law_tall" "_law_tall" (defArgs s_u_law_tall) (defBody s_u_law_tall) (defScope s_u_law_tall) .none kV9 dc9 pm9 an9 cd9 ct9), sl9⟩) (e9 : PySem.W.codeIn K cd9 "_law_tall" = true) (k9 : PySem.W.keepIn K (.ref f9) = true)
    (a10 : PySem.W.nsIn K mainGlobals "write_term" = some (some (.ref f10))) (l10 : K.lookup f10 = some ⟨oc10, od10, .func (PySem.W.fnOf "write_term" "write_term" (defArgs s_write_term) (defBody s_write_term) (defScope s_write_term) .none kV10 dc10 pm10 an10 cd10 ct10), sl10⟩) (e10 : PySem.W.codeIn K cd10 "write_term" = true) (k10 : PySem.W.keepIn K (.ref f10) = true)
    (a11 : PySem.W.nsIn K mainGlobals "write_equation" = some (some (.ref f11))) (l11 : K.lookup f11 = some ⟨oc11, od11, .func (PySem.W.fnOf "write_equation" "write_equation" (defArgs s_write_equation) (defBody s_write_equation) (defScope s_write_equation) .none kV11 dc11 pm11 an11 cd11 ct11), sl11⟩) (e11 : PySem.W.codeIn K cd11 "write_equation" = true) (k11 : PySem.W.keepIn K (.ref f11) = true)
    (a12 : PySem.W.nsIn K mainGlobals "_law_written" = some (some (.ref f12))) (l12 : K.lookup f12 = some ⟨oc12, od12, .func (PySem.W.fnOf "_law_written" "_law_written" (defArgs s_u_law_written) (defBody s_u_law_written) (defScope s_u_law_written) .none kV12 dc12 pm12 an12 cd12 ct12), sl12⟩) (e12 : PySem.W.codeIn K cd12 "_law_written" = true) (k12 : PySem.W.keepIn K (.ref f12) = true)
    (a13 : PySem.W.nsIn K mainGlobals "law" = some (some (.ref f13))) (l13 : K.lookup f13 = some ⟨oc13, od13, .func (PySem.W.fnOf "law" "law" (defArgs s_law) (defBody s_law) (defScope s_law) .none kV13 dc13 pm13 an13 cd13 ct13), sl13⟩) (e13 : PySem.W.codeIn K cd13 "law" = true) (k13 : PySem.W.keepIn K (.ref f13) = true)
    (z_int : PySem.W.nsIn K mainGlobals "int" = some none)
    (z_isinstance : PySem.W.nsIn K mainGlobals "isinstance" = some none)
    (z_len : PySem.W.nsIn K mainGlobals "len" = some none)
    (z_list : PySem.W.nsIn K mainGlobals "list" = some none)
    (z_range : PySem.W.nsIn K mainGlobals "range" = some none)
    (z_str : PySem.W.nsIn K mainGlobals "str" = some none)
    : ∃ fd : FuncData, (∀ (s : Shared) (v : Value), BindsTo s fd ⟨[v], []⟩ [("script", v)]) ∧ ∀ base : Heap, K.In base → base.Ns mainGlobals mg → FnOk l.prog w K mg base CX0 60 fa fd ["script"] (sp_law K) := by
  have e := hfa.symm.trans (PySem.W.mg_of X G a13)
  cases e
  have F0 := fun_mk (st := s_u_law_state) l0 e0 k0
  have b0 := F0.binds (ps := ["script"]) fun _ _ _ _ _ _ us hl => match us, hl with | [_], _ => rfl
  have F1 := fun_mk (st := s_u_law_mix) l1 e1 k1
  have b1 := F1.binds (ps := ["cell"]) fun _ _ _ _ _ _ us hl => match us, hl with | [_], _ => rfl
  have F2 := fun_mk (st := s_u_law_number) l2 e2 k2
  have b2 := F2.binds (ps := ["cell"]) fun _ _ _ _ _ _ us hl => match us, hl with | [_], _ => rfl
  have F3 := fun_mk (st := s_u_law_draw) l3 e3 k3
  have b3 := F3.binds (ps := ["state", "many"]) fun _ _ _ _ _ _ us hl => match us, hl with | [_, _], _ => rfl
  have F4 := fun_mk (st := s_u_law_word) l4 e4 k4
  have b4 := F4.binds (ps := ["state", "many"]) fun _ _ _ _ _ _ us hl => match us, hl with | [_, _], _ => rfl
  have F5 := fun_mk (st := s_u_law_names) l5 e5 k5
  have b5 := F5.binds (ps := ["state", "count"]) fun _ _ _ _ _ _ us hl => match us, hl with | [_, _], _ => rfl
  have F6 := fun_mk (st := s_u_law_operations) l6 e6 k6
  have b6 := F6.binds (ps := ["state"]) fun _ _ _ _ _ _ us hl => match us, hl with | [_], _ => rfl
  have F7 := fun_mk (st := s_u_law_leaf) l7 e7 k7
  have b7 := F7.binds (ps := ["state", "operations", "count"]) fun _ _ _ _ _ _ us hl => match us, hl with | [_, _, _], _ => rfl
  have F8 := fun_mk (st := s_u_law_term) l8 e8 k8
  have b8 := F8.binds (ps := ["state", "operations", "count", "height"]) fun _ _ _ _ _ _ us hl => match us, hl with | [_, _, _, _], _ => rfl
  have F9 := fun_mk (st := s_u_law_tall) l9 e9 k9
  have b9 := F9.binds (ps := ["state", "operations", "count"]) fun _ _ _ _ _ _ us hl => match us, hl with | [_, _, _], _ => rfl
  have F10 := fun_mk (st := s_write_term) l10 e10 k10
  have b10 := F10.binds (ps := ["term"]) fun _ _ _ _ _ _ us hl => match us, hl with | [_], _ => rfl
  have F11 := fun_mk (st := s_write_equation) l11 e11 k11
  have b11 := F11.binds (ps := ["left", "right"]) fun _ _ _ _ _ _ us hl => match us, hl with | [_, _], _ => rfl
  have F12 := fun_mk (st := s_u_law_written) l12 e12 k12
  have b12 := F12.binds (ps := ["term"]) fun _ _ _ _ _ _ us hl => match us, hl with | [_], _ => rfl
  have F13 := fun_mk (st := s_law) l13 e13 k13
  have b13 := F13.binds (ps := ["script"]) fun _ _ _ _ _ _ us hl => match us, hl with | [_], _ => rfl
  have T : Tx K mg ⟨f0, _, f1, _, f2, _, f3, _, f4, _, f5, _, f6, _, f7, _, f8, _, f9, _, f10, _, f11, _, f12, _, fa, _⟩ := ⟨F0, b0, PySem.W.mg_of X G a0, F1, b1, PySem.W.mg_of X G a1, F2, b2, PySem.W.mg_of X G a2, F3, b3, PySem.W.mg_of X G a3, F4, b4, PySem.W.mg_of X G a4, F5, b5, PySem.W.mg_of X G a5, F6, b6, PySem.W.mg_of X G a6, F7, b7, PySem.W.mg_of X G a7, F8, b8, PySem.W.mg_of X G a8, F9, b9, PySem.W.mg_of X G a9, F10, b10, PySem.W.mg_of X G a10, F11, b11, PySem.W.mg_of X G a11, F12, b12, PySem.W.mg_of X G a12, F13, b13, PySem.W.mg_of X G a13, PySem.W.mg_none_of X G z_int, PySem.W.mg_none_of X G z_isinstance, PySem.W.mg_none_of X G z_len, PySem.W.mg_none_of X G z_list, PySem.W.mg_none_of X G z_range, PySem.W.mg_none_of X G z_str⟩
  refine ⟨PySem.W.fnOf "law" "law" (defArgs s_law) (defBody s_law) (defScope s_law) .none kV13 dc13 pm13 an13 cd13 ct13, fun s v => .of_eq rfl, fun base _ _ => ?_⟩
  exact ok_law (P := l.prog) (w := w) (base := base) T
theorem walk {l : PySem.W.OpenLaw} {q : Program} {loose : List Str} {XP : (Str → Option Value) → Heap → Prop} {YP : World → Heap → Prop} {d : DefRec} {K : Params → PySem.W.Frag} (hn : l.most = some 63) (hdf : d.params.defaults = [])
    (hY : ∀ (w : World) (h : Heap), YP w h → (K w.params).In h)
    (F : ∀ (w : World) (mg : Str → Option Value) (fa : Addr) (h : Heap), (K w.params).In h → h.Ns mainGlobals mg → mg d.name = some (.ref fa) →
      ∃ fd : FuncData, (∀ (s : Shared) (u : Value), BindsTo s fd ⟨[u], []⟩ [("script", u)]) ∧ ∀ base : Heap, (K w.params).In base → base.Ns mainGlobals mg → FnOk l.prog w (K w.params) mg base CX0 60 fa fd ["script"] (sp_law (K w.params))) :
    PySem.W.WalkO q loose XP YP l.row.toRowW d [] (fun f vs => PySem.call f vs) :=
  L2.walk_of (n := 63) (k := 60) (x := "script") (CX := fun _ => CX0) (sp := fun w => sp_law (K w.params)) hn (by decide) hdf ⟨rfl, by decide, by decide⟩ hY F (fun _ _ a ns hl _ hS => ⟨a, ns, rfl, hS, hl, fun _ => rfl⟩) fun _ _ _ _ _ z => z
end Lw
open PySem PySem.W PyProof.Rows
set_option maxRecDepth 100000 in
set_option maxHeartbeats 0 in
theorem PySem.Challenge.cw_joinedends_k10_write_terms_holds : PySem.Challenge.rw_joinedends_k10_write_terms.Holds := by
  w_on; o_law; k_head; (case hw => w_witness2)
  k_fill
  refine Lw.walk (l := PySem.Challenge.rw_joinedends_k10_write_terms) rfl rfl (fun w h Y => PySem.W.kIn_of Y) ?F
  case F =>
    intro w mg fa h KX G hmg
    refine' Lw.all_mk KX G hmg ?a0 ?l0 ?e0 ?k0 ?a1 ?l1 ?e1 ?k1 ?a2 ?l2 ?e2 ?k2 ?a3 ?l3 ?e3 ?k3 ?a4 ?l4 ?e4 ?k4 ?a5 ?l5 ?e5 ?k5 ?a6 ?l6 ?e6 ?k6 ?a7 ?l7 ?e7 ?k7 ?a8 ?l8 ?e8 ?k8 ?a9 ?l9 ?e9 ?k9 ?a10 ?l10 ?e10 ?k10 ?a11 ?l11 ?e11 ?k11 ?a12 ?l12 ?e12 ?k12 ?a13 ?l13 ?e13 ?k13 ?z_int ?z_isinstance ?z_len ?z_list ?z_range ?z_str
    (case a0 => k_is)
    (case l0 => k_is)
    (case e0 => k_is)
    (case k0 => k_is)
    (case a1 => k_is)
    (case l1 => k_is)
    (case e1 => k_is)
    (case k1 => k_is)
    (case a2 => k_is)
    (case l2 => k_is)
    (case e2 => k_is)
    (case k2 => k_is)
    (case a3 => k_is)
    (case l3 => k_is)
    (case e3 => k_is)
    (case k3 => k_is)
    (case a4 => k_is)
    (case l4 => k_is)
    (case e4 => k_is)
    (case k4 => k_is)
    (case a5 => k_is)
    (case l5 => k_is)
    (case e5 => k_is)
    (case k5 => k_is)
    (case a6 => k_is)
    (case l6 => k_is)
    (case e6 => k_is)
    (case k6 => k_is)
    (case a7 => k_is)
    (case l7 => k_is)
    (case e7 => k_is)
    (case k7 => k_is)
    (case a8 => k_is)
    (case l8 => k_is)
    (case e8 => k_is)
    (case k8 => k_is)
    (case a9 => k_is)
    (case l9 => k_is)
    (case e9 => k_is)
    (case k9 => k_is)
    (case a10 => k_is)
    (case l10 => k_is)
    (case e10 => k_is)
    (case k10 => k_is)
    (case a11 => k_is)
    (case l11 => k_is)
    (case e11 => k_is)
    (case k11 => k_is)
    (case a12 => k_is)
    (case l12 => k_is)
    (case e12 => k_is)
    (case k12 => k_is)
    (case a13 => k_is)
    (case l13 => k_is)
    (case e13 => k_is)
    (case k13 => k_is)
    (case z_int => k_is)
    (case z_isinstance => k_is)
    (case z_len => k_is)
    (case z_list => k_is)
    (case z_range => k_is)
    (case z_str => k_is)
#print axioms PySem.Challenge.cw_joinedends_k10_write_terms_holds
