import PyProof.Rows.All
import HandS.ForMost
import HandS.Exc
import HandS.TryOnly
import HandS.ExcOwn
import HandS.ExcIs
import HandS.WordsExc
import HandS.IsInst
import HandS.Wide
import HandS.TupMul
import HandS.Zip
import KE.GoesZip
import KE.GoesMore
import HandS.Gcd
import PySem.Challenge.RW_wholecut_k05_tables_turned
import Wide.All
import OpenK.AllK
import Wide.FinOn
set_option Elab.async false
set_option linter.all false
set_option maxRecDepth 100000
/-! Values by their data: what stands at a value in an abstract heap; states by the data of their slots. -/
namespace Fn
open PySem PySem.Spec L2

abbrev D := PyData
/-- a list that is only read (the script, a module's own) -/
abbrev D.ro (ds : List D) : D := .dict [(.none, .list ds)]
/-- an instance of the k-th class -/
abbrev D.ob (k : Nat) (gs : List (D × D)) : D := .dict ((.bool true, .int k) :: gs)

section rep
variable (K : PySem.W.Frag) (cls : Nat → Addr)
mutual
inductive Rep (H : Hp) : V → D → Prop
  | non : Rep H .non .none
  | bl (b : Bool) : Rep H (.bl b) (.bool b)
  | int (i : Int) : Rep H (.int i) (.int i)
  | str (x : Str) : Rep H (.str x) (.str x)
  | ls {a : Addr} {xs : List V} {ds : List D} : H a = some (.lst xs) → RepL H xs ds → Rep H (.ref a) (.list ds)
  | ro {a : Addr} {xs : List V} {ds : List D} : SqL K H a xs → RepL H xs ds → Rep H (.ref a) (D.ro ds)
  | tp {a : Addr} {xs : List V} {ds : List D} : SqT K H a xs → RepL H xs ds → Rep H (.ref a) (.tuple ds)
  | ob {a dx : Addr} {k : Nat} {fs : List (Str × V)} {gs : List (D × D)} : H a = some (.ins (cls k) dx fs) → RepF H fs gs → Rep H (.ref a) (D.ob k gs)
inductive RepL (H : Hp) : List V → List D → Prop
  | nil : RepL H [] []
  | cons {v : V} {vs : List V} {d : D} {ds : List D} : Rep H v d → RepL H vs ds → RepL H (v :: vs) (d :: ds)
inductive RepF (H : Hp) : List (Str × V) → List (D × D) → Prop
  | nil : RepF H [] []
  | cons {n : Str} {v : V} {vs : List (Str × V)} {d : D} {ds : List (D × D)} : Rep H v d → RepF H vs ds → RepF H ((n, v) :: vs) ((.str n, d) :: ds)
end
end rep

theorem Same.tup {K : PySem.W.Frag} {H H' : Hp} {a : Addr} {xs : List V} (e : Same H H') (h : SqT K H a xs) : SqT K H' a xs := by
  rcases h with (h | ⟨o, h⟩) | h
  · exact .inl (.inl (e _ _ h))
  · exact .inl (.inr ⟨o, e _ _ h⟩)
  · exact .inr h

section
variable {K : PySem.W.Frag} {cls : Nat → Addr} {F F' : Hp}
mutual
theorem Rep.mono (e : Same F F') : ∀ {v : V} {d : D}, Rep K cls F v d → Rep K cls F' v d
  | _, _, .non => .non
  | _, _, .bl b => .bl b
  | _, _, .int i => .int i
  | _, _, .str x => .str x
  | _, _, .ls h r => .ls (e _ _ h) (RepL.mono e r)
  | _, _, .ro h r => .ro (e.seq h) (RepL.mono e r)
  | _, _, .tp h r => .tp (Same.tup e h) (RepL.mono e r)
  | _, _, .ob h r => .ob (e _ _ h) (RepF.mono e r)
theorem RepL.mono (e : Same F F') : ∀ {vs : List V} {ds : List D}, RepL K cls F vs ds → RepL K cls F' vs ds
  | _, _, .nil => .nil
  | _, _, .cons h r => .cons (Rep.mono e h) (RepL.mono e r)
theorem RepF.mono (e : Same F F') : ∀ {vs : List (Str × V)} {ds : List (D × D)}, RepF K cls F vs ds → RepF K cls F' vs ds
  | _, _, .nil => .nil
  | _, _, .cons h r => .cons (Rep.mono e h) (RepF.mono e r)
end
end
section
variable {K : PySem.W.Frag} {cls : Nat → Addr} {F : Hp}
theorem RepL.length : ∀ {vs : List V} {ds : List D}, RepL K cls F vs ds → vs.length = ds.length
  | _, _, .nil => rfl
  | _, _, .cons _ t => by rw [List.length_cons, List.length_cons, RepL.length t]
theorem RepL.get : ∀ {vs : List V} {ds : List D} {i : Nat} {d : D}, RepL K cls F vs ds → ds[i]? = some d → ∃ v, vs[i]? = some v ∧ Rep K cls F v d
  | _, _, _, _, .nil, h => by simp at h
  | _, _, 0, _, .cons r _, h => by simp at h; subst h; exact ⟨_, rfl, r⟩
  | _, _, i + 1, _, .cons _ t, h => by
    obtain ⟨v, h1, h2⟩ := RepL.get (i := i) t (by simpa using h)
    exact ⟨v, by simpa using h1, h2⟩
theorem RepL.getV : ∀ {vs : List V} {ds : List D} {i : Nat} {v : V}, RepL K cls F vs ds → vs[i]? = some v → ∃ d, ds[i]? = some d ∧ Rep K cls F v d
  | _, _, _, _, .nil, h => by simp at h
  | _, _, 0, _, .cons r _, h => by simp at h; subst h; exact ⟨_, rfl, r⟩
  | _, _, i + 1, _, .cons _ t, h => by
    obtain ⟨v, h1, h2⟩ := RepL.getV (i := i) t (by simpa using h)
    exact ⟨v, by simpa using h1, h2⟩
theorem RepL.append : ∀ {xs ys : List V} {ds es : List D}, RepL K cls F xs ds → RepL K cls F ys es → RepL K cls F (xs ++ ys) (ds ++ es)
  | _, _, _, _, .nil, s => s
  | _, _, _, _, .cons r t, s => .cons r (RepL.append t s)
theorem RepL.take : ∀ (n : Nat) {xs : List V} {ds : List D}, RepL K cls F xs ds → RepL K cls F (xs.take n) (ds.take n)
  | 0, _, _, _ => by rw [List.take_zero, List.take_zero]; exact .nil
  | _ + 1, _, _, .nil => by rw [List.take_nil, List.take_nil]; exact .nil
  | n + 1, _, _, .cons r t => .cons r (RepL.take n t)
theorem RepL.drop : ∀ (n : Nat) {xs : List V} {ds : List D}, RepL K cls F xs ds → RepL K cls F (xs.drop n) (ds.drop n)
  | 0, _, _, r => r
  | _ + 1, _, _, .nil => by rw [List.drop_nil, List.drop_nil]; exact .nil
  | n + 1, _, _, .cons _ t => RepL.drop n t
theorem RepL.set (i : Nat) {v : V} {d : D} (r : Rep K cls F v d) : ∀ {xs : List V} {ds : List D}, RepL K cls F xs ds → RepL K cls F (xs.set i v) (ds.set i d)
  | _, _, .nil => .nil
  | _, _, .cons q t => by
    cases i with
    | zero => exact .cons r t
    | succ j => exact .cons q (RepL.set j r t)
theorem RepL.rep {xs : List V} {ds : List D} (h : RepL K cls F xs ds) : ∀ k : Nat, RepL K cls F (List.replicate k xs).flatten (List.replicate k ds).flatten
  | 0 => .nil
  | k + 1 => by
    rw [List.replicate_succ, List.replicate_succ, List.flatten_cons, List.flatten_cons]
    exact RepL.append h (RepL.rep h k)
theorem RepL.reverse : ∀ {xs : List V} {ds : List D}, RepL K cls F xs ds → RepL K cls F xs.reverse ds.reverse
  | _, _, .nil => .nil
  | _, _, .cons r t => by
    rw [List.reverse_cons, List.reverse_cons]
    exact RepL.append (RepL.reverse t) (.cons r .nil)
theorem RepL.ints : ∀ (ns : List Int), RepL K cls F (ns.map V.int) (ns.map PyData.int)
  | [] => .nil
  | n :: ns => .cons (.int n) (RepL.ints ns)
theorem RepL.of_ints : ∀ {vs : List V} (ns : List Int), RepL K cls F vs (ns.map PyData.int) → vs = ns.map V.int
  | _, [], h => by cases h; rfl
  | _, n :: ns, h => by
    cases h with
    | cons r t =>
      cases r
      rw [RepL.of_ints ns t]
      rfl
theorem RepL.of_bls : ∀ {vs : List V} (ns : List Bool), RepL K cls F vs (ns.map PyData.bool) → vs = ns.map V.bl
  | _, [], h => by cases h; rfl
  | _, n :: ns, h => by
    cases h with
    | cons r t =>
      cases r
      rw [RepL.of_bls ns t]
      rfl
end
/-- the field n of an instance's data -/
def fieldD (n : Str) : List (D × D) → Option D
  | [] => none
  | (.str m, d) :: r => if n == m then some d else fieldD n r
  | _ :: r => fieldD n r
section
variable {K : PySem.W.Frag} {cls : Nat → Addr} {F : Hp}
theorem RepF.lookup {n : Str} : ∀ {fs : List (Str × V)} {gs : List (D × D)} {d : D}, RepF K cls F fs gs → fieldD n gs = some d → ∃ v, fs.lookup n = some v ∧ Rep K cls F v d
  | _, _, _, .nil, h => by unfold fieldD at h; cases h
  | _, _, d, .cons (n := m) (v := v) (d := d') r t, h => by
    unfold fieldD at h
    rw [List.lookup_cons]
    cases e : n == m with
    | true =>
      rw [e, if_pos rfl] at h
      cases h
      exact ⟨v, rfl, r⟩
    | false =>
      rw [e, if_neg Bool.false_ne_true] at h
      exact RepF.lookup t h
end

/-! no instance, no read-only list within -/
mutual
def plainD : D → Bool
  | .none | .bool _ | .int _ | .str _ => true
  | .list xs | .tuple xs => plainAll xs
  | .dict _ => false
def plainAll : List D → Bool
  | [] => true
  | x :: xs => plainD x && plainAll xs
end
section
variable {K : PySem.W.Frag} {cls : Nat → Addr} {F : Hp}
mutual
theorem Rep.dp : ∀ {v : V} {d : D}, Rep K cls F v d → plainD d = true → Dp K F v d
  | _, _, .non, _ => .non
  | _, _, .bl b, _ => .bl b
  | _, _, .int i, _ => .int i
  | _, _, .str x, _ => .str x
  | _, _, .ls h r, p => .lst (SqL.of h) (RepL.dp r p)
  | _, _, .tp h r, p => .tup h (RepL.dp r p)
  | _, _, .ro _ _, p => by unfold plainD at p; cases p
  | _, _, .ob _ _, p => by unfold plainD at p; cases p
theorem RepL.dp : ∀ {vs : List V} {ds : List D}, RepL K cls F vs ds → plainAll ds = true → DpAll K F vs ds
  | _, _, .nil, _ => .nil
  | _, _, .cons r t, p => by
    unfold plainAll at p
    rw [Bool.and_eq_true] at p
    exact .cons (Rep.dp r p.1) (RepL.dp t p.2)
end
end

/-! ### heaps -/
/-- F (what never changes) and H (all that is tracked) have grown -/
structure Ext (F H F' H' : Hp) : Prop where
  f : Same F F'
  h : Same H H'
  s : Same F' H'
  n : ∀ a o, F' a = some o → F a = some o ∨ H a = none
theorem Ext.refl {F H : Hp} (s : Same F H) : Ext F H F H := ⟨Same.refl _, Same.refl _, s, fun _ _ e => .inl e⟩
theorem Ext.trans {F H F1 H1 F2 H2 : Hp} (a : Ext F H F1 H1) (b : Ext F1 H1 F2 H2) : Ext F H F2 H2 :=
  ⟨a.f.trans b.f, a.h.trans b.h, b.s, fun x o e => (b.n x o e).elim (fun q => a.n x o q) fun q => .inr (a.h.free q)⟩
theorem same_upd {H : Hp} {p : Addr} {o : HO} (h : H p = none) : Same H (upd H p o) := fun b x e => by
  rw [upd_ne (ne_of_none e h)]
  exact e
theorem Same.free2 {F H : Hp} (s : Same F H) {p : Addr} (h : H p = none) : F p = none := s.free h
theorem upd_some {H : Hp} {p a : Addr} {o u : HO} (h : upd H p o a = some u) : (a = p ∧ u = o) ∨ (a ≠ p ∧ H a = some u) := by
  by_cases e : a = p
  · subst e
    rw [upd_same] at h
    exact .inl ⟨rfl, (Option.some.inj h).symm⟩
  · rw [upd_ne e] at h
    exact .inr ⟨e, h⟩
/-- a new object for good -/
theorem Ext.new {F H : Hp} {p : Addr} {o : HO} (s : Same F H) (h : H p = none) : Ext F H (upd F p o) (upd H p o) :=
  ⟨same_upd (s.free h), same_upd h, fun b x e => by
    rcases upd_some e with ⟨rfl, rfl⟩ | ⟨n, e⟩
    · exact upd_same
    · rw [upd_ne n]; exact s _ _ e, fun a x e => by
    rcases upd_some e with ⟨rfl, rfl⟩ | ⟨n, e⟩
    · exact .inr h
    · exact .inl e⟩
/-- a new object that may change -/
theorem Ext.newO {F H : Hp} {p : Addr} {o : HO} (s : Same F H) (h : H p = none) : Ext F H F (upd H p o) :=
  ⟨Same.refl _, same_upd h, s.trans (same_upd h), fun _ _ e => .inl e⟩
/-- what stood in H alone is made to stay -/
theorem Ext.keep {F H F' H' : Hp} {p : Addr} {o : HO} (e : Ext F H F' H') (h : H p = none) (h' : H' p = some o) : Ext F H (upd F' p o) H' := by
  refine ⟨fun b x q => ?_, e.h, fun b x q => ?_, fun a x q => ?_⟩
  · by_cases z : b = p
    · subst z
      have := e.h
      have q' := e.s _ _ (e.f _ _ q)
      rw [h'] at q'
      cases q'
      exact upd_same
    · rw [upd_ne z]; exact e.f _ _ q
  · rcases upd_some q with ⟨rfl, rfl⟩ | ⟨n, q⟩
    · exact h'
    · exact e.s _ _ q
  · rcases upd_some q with ⟨rfl, rfl⟩ | ⟨n, q⟩
    · exact .inr h
    · exact e.n _ _ q

/-! ### states -/
abbrev Rho := List (Option D)
section
variable (K : PySem.W.Frag) (cls : Nat → Addr)
/-- slot i owns its list: it stands in H alone -/
def Ow (H0 : Hp) (σ : St) (H F : Hp) (i : Nat) (d : D) : Prop :=
  ∃ a xs ds, d = .list ds ∧ σ[i]? = some (some (V.ref a)) ∧ H a = some (.lst xs) ∧ RepL K cls F xs ds ∧ F a = none ∧ H0 a = none
structure Sim (B : Hp × Hp) (own : List Nat) (σ : St) (H F : Hp) (ρ : Rho) : Prop where
  b : Ext B.2 B.1 F H
  len : σ.length = ρ.length
  fro : ∀ i d, i ∉ own → ρ[i]? = some (some d) → ∃ v, σ[i]? = some (some v) ∧ Rep K cls F v d
  ow : ∀ i d, i ∈ own → ρ[i]? = some (some d) → Ow K cls B.1 σ H F i d
  sep : ∀ i j d e a, i ∈ own → j ∈ own → i ≠ j → ρ[i]? = some (some d) → ρ[j]? = some (some e) → σ[i]? = some (some (V.ref a)) → σ[j]? = some (some (V.ref a)) → False
end
section
variable {K : PySem.W.Frag} {cls : Nat → Addr} {B : Hp × Hp} {own : List Nat} {σ : St} {H F H' F' : Hp} {ρ : Rho}
theorem Sim.s (S : Sim K cls B own σ H F ρ) : Same F H := S.b.s
theorem Sim.ext (S : Sim K cls B own σ H F ρ) (e : Ext F H F' H') : Sim K cls B own σ H' F' ρ where
  b := S.b.trans e
  len := S.len
  fro := fun i d hi h => by
    obtain ⟨v, h1, h2⟩ := S.fro i d hi h
    exact ⟨v, h1, h2.mono e.f⟩
  ow := fun i d hi h => by
    obtain ⟨a, xs, ds, h1, h2, h3, h4, h5, h6⟩ := S.ow i d hi h
    refine ⟨a, xs, ds, h1, h2, e.h _ _ h3, h4.mono e.f, ?_, h6⟩
    cases q : F' a with
    | none => rfl
    | some o =>
      rcases e.n a o q with z | z
      · rw [h5] at z; cases z
      · rw [h3] at z; cases z
  sep := S.sep
theorem get_set_ne {α : Type} {l : List α} {i j : Nat} {x : α} (h : i ≠ j) : (l.set i x)[j]? = l[j]? := List.getElem?_set_ne h
theorem get_set {α : Type} {l : List α} {i : Nat} {x y : α} (h : (l.set i x)[i]? = some y) : y = x ∧ i < l.length := by
  by_cases hl : i < l.length
  · rw [List.getElem?_set_self hl] at h
    exact ⟨(Option.some.inj h).symm, hl⟩
  · rw [List.getElem?_eq_none (by rw [List.length_set]; omega)] at h
    cases h
theorem Sim.set (S : Sim K cls B own σ H F ρ) (i : Nat) {v : V} {d : D} (r : Rep K cls F v d) : Sim K cls B (own.filter fun j => j != i) (σ.set i (some v)) H F (ρ.set i (some d)) where
  b := S.b
  len := by rw [List.length_set, List.length_set]; exact S.len
  fro := fun j e hj h => by
    by_cases q : i = j
    · subst q
      obtain ⟨h1, h2⟩ := get_set h
      cases h1
      exact ⟨v, by rw [List.getElem?_set_self (by rw [S.len]; exact h2)], r⟩
    · rw [get_set_ne q] at h ⊢
      exact S.fro j e (fun z => hj (List.mem_filter.mpr ⟨z, by simpa using fun z => q z.symm⟩)) h
  ow := fun j e hj h => by
    obtain ⟨h1, h2⟩ := List.mem_filter.mp hj
    have q : i ≠ j := fun z => by subst z; simp at h2
    rw [get_set_ne q] at h
    obtain ⟨a, xs, ds, k1, k2, k3⟩ := S.ow j e h1 h
    exact ⟨a, xs, ds, k1, by rw [get_set_ne q]; exact k2, k3⟩
  sep := fun j k e f a hj hk hne h1 h2 h3 h4 => by
    obtain ⟨m1, n1⟩ := List.mem_filter.mp hj
    obtain ⟨m2, n2⟩ := List.mem_filter.mp hk
    have q1 : i ≠ j := fun z => by subst z; simp at n1
    have q2 : i ≠ k := fun z => by subst z; simp at n2
    rw [get_set_ne q1] at h1 h3
    rw [get_set_ne q2] at h2 h4
    exact S.sep j k e f a m1 m2 hne h1 h2 h3 h4
/-- slot i now owns a list that no other slot owns -/
theorem Sim.setO (S : Sim K cls B own σ H F ρ) (i : Nat) {a : Addr} {xs : List V} {ds : List D} (h : H a = some (.lst xs)) (r : RepL K cls F xs ds) (hf : F a = none) (h0 : B.1 a = none)
    (apart : ∀ j b d, j ∈ own → j ≠ i → ρ[j]? = some (some d) → σ[j]? = some (some (V.ref b)) → b ≠ a) : Sim K cls B (i :: own.filter fun j => j != i) (σ.set i (some (.ref a))) H F (ρ.set i (some (.list ds))) where
  b := S.b
  len := by rw [List.length_set, List.length_set]; exact S.len
  fro := fun j e hj q => by
    have n1 : i ≠ j := fun z => hj (by subst z; exact List.mem_cons_self)
    rw [get_set_ne n1] at q ⊢
    exact S.fro j e (fun z => hj (List.mem_cons_of_mem _ (List.mem_filter.mpr ⟨z, by simpa using fun z => n1 z.symm⟩))) q
  ow := fun j e hj q => by
    by_cases n1 : i = j
    · subst n1
      obtain ⟨h1, h2⟩ := get_set q
      cases h1
      exact ⟨a, xs, ds, rfl, by rw [List.getElem?_set_self (by rw [S.len]; exact h2)], h, r, hf, h0⟩
    · have hj' : j ∈ own := by
        rcases List.mem_cons.mp hj with z | z
        · exact absurd z.symm n1
        · exact (List.mem_filter.mp z).1
      rw [get_set_ne n1] at q
      obtain ⟨b, ys, es, k1, k2, k3⟩ := S.ow j e hj' q
      exact ⟨b, ys, es, k1, by rw [get_set_ne n1]; exact k2, k3⟩
  sep := fun j k e f c hj hk hne h1 h2 h3 h4 => by
    have mem : ∀ {j}, j ∈ i :: own.filter (fun j => j != i) → i ≠ j → j ∈ own := fun {j} hj n1 => by
      rcases List.mem_cons.mp hj with z | z
      · exact absurd z.symm n1
      · exact (List.mem_filter.mp z).1
    by_cases n1 : i = j
    · subst n1
      rw [get_set_ne hne] at h2 h4
      obtain ⟨z1, z2⟩ := get_set h3
      cases z1
      exact apart k _ _ (mem hk hne) (Ne.symm hne) h2 h4 rfl
    · by_cases n2 : i = k
      · subst n2
        rw [get_set_ne n1] at h1 h3
        obtain ⟨z1, z2⟩ := get_set h4
        cases z1
        exact apart j _ _ (mem hj n1) (Ne.symm n1) h1 h3 rfl
      · rw [get_set_ne n1] at h1 h3
        rw [get_set_ne n2] at h2 h4
        exact S.sep j k e f c (mem hj n1) (mem hk n2) hne h1 h2 h3 h4
/-- an owned list changes -/
theorem Sim.mut (S : Sim K cls B own σ H F ρ) {i : Nat} (hi : i ∈ own) {ds : List D} (h : ρ[i]? = some (some (.list ds))) :
    ∃ a xs, σ[i]? = some (some (V.ref a)) ∧ H a = some (.lst xs) ∧ RepL K cls F xs ds ∧ ∀ ys es, RepL K cls F ys es → Sim K cls B own σ (upd H a (.lst ys)) F (ρ.set i (some (.list es))) := by
  obtain ⟨a, xs, ds', e, k2, k3, k4, k5, k6⟩ := S.ow i _ hi h
  cases e
  refine ⟨a, xs, k2, k3, k4, fun ys es r => ?_⟩
  have iy : i < ρ.length := by
    by_cases q : i < ρ.length
    · exact q
    · rw [List.getElem?_eq_none (by omega)] at h; cases h
  have sFH : Same F (upd H a (.lst ys)) := fun b o q => by
    have : b ≠ a := fun z => by rw [z, k5] at q; cases q
    rw [upd_ne this]; exact S.s _ _ q
  refine ⟨⟨S.b.f, fun b o q => ?_, sFH, S.b.n⟩, by rw [List.length_set]; exact S.len, fun j e hj q => ?_, fun j e hj q => ?_, fun j k e f c hj hk hne h1 h2 h3 h4 => ?_⟩
  · have : b ≠ a := fun z => by rw [z, k6] at q; cases q
    rw [upd_ne this]; exact S.b.h _ _ q
  · have n1 : i ≠ j := fun z => hj (by subst z; exact hi)
    rw [get_set_ne n1] at q
    exact S.fro j e hj q
  · by_cases n1 : i = j
    · subst n1
      obtain ⟨z, _⟩ := get_set q
      cases z
      exact ⟨a, ys, es, rfl, k2, upd_same, r, k5, k6⟩
    · rw [get_set_ne n1] at q
      obtain ⟨b, zs, fs, m1, m2, m3, m4⟩ := S.ow j e hj q
      have : b ≠ a := fun z => by
        subst z
        exact S.sep i j _ _ b hi hj n1 h q k2 m2
      exact ⟨b, zs, fs, m1, m2, by rw [upd_ne this]; exact m3, m4⟩
  · have ex : ∀ {j e}, (ρ.set i (some (.list es)))[j]? = some (some e) → ∃ e', ρ[j]? = some (some e') := fun {j e} q => by
      by_cases n1 : i = j
      · subst n1; exact ⟨_, h⟩
      · rw [get_set_ne n1] at q; exact ⟨_, q⟩
    obtain ⟨e', q1⟩ := ex h1
    obtain ⟨f', q2⟩ := ex h2
    exact S.sep j k e' f' c hj hk hne q1 q2 h3 h4
/-- an owned list stays from here on as it is -/
theorem Sim.freeze (S : Sim K cls B own σ H F ρ) (i : Nat) : ∃ F', Same F F' ∧ Sim K cls B (own.filter fun j => j != i) σ H F' ρ := by
  by_cases hi : i ∈ own
  · cases q : ρ[i]? with
    | none =>
      refine ⟨F, Same.refl _, S.b, S.len, fun j d hj h => ?_, fun j d hj h => S.ow j d (List.mem_filter.mp hj).1 h, fun j k e f a hj hk hne h1 h2 h3 h4 => S.sep j k e f a (List.mem_filter.mp hj).1 (List.mem_filter.mp hk).1 hne h1 h2 h3 h4⟩
      by_cases e : i = j
      · subst e; rw [q] at h; cases h
      · exact S.fro j d (fun z => hj (List.mem_filter.mpr ⟨z, by simpa using fun z => e z.symm⟩)) h
    | some o =>
      cases o with
      | none =>
        refine ⟨F, Same.refl _, S.b, S.len, fun j d hj h => ?_, fun j d hj h => S.ow j d (List.mem_filter.mp hj).1 h, fun j k e f a hj hk hne h1 h2 h3 h4 => S.sep j k e f a (List.mem_filter.mp hj).1 (List.mem_filter.mp hk).1 hne h1 h2 h3 h4⟩
        by_cases e : i = j
        · subst e; rw [q] at h; cases h
        · exact S.fro j d (fun z => hj (List.mem_filter.mpr ⟨z, by simpa using fun z => e z.symm⟩)) h
      | some d =>
        obtain ⟨a, xs, ds, e, k2, k3, k4, k5, k6⟩ := S.ow i _ hi q
        cases e
        refine ⟨upd F a (.lst xs), same_upd k5, S.b.keep k6 k3, S.len, fun j d hj h => ?_, fun j d hj h => ?_, fun j k e f c hj hk hne h1 h2 h3 h4 => S.sep j k e f c (List.mem_filter.mp hj).1 (List.mem_filter.mp hk).1 hne h1 h2 h3 h4⟩
        · by_cases e : i = j
          · subst e
            rw [q] at h
            cases h
            exact ⟨_, k2, .ls upd_same (k4.mono (same_upd k5))⟩
          · obtain ⟨v, h1, h2⟩ := S.fro j d (fun z => hj (List.mem_filter.mpr ⟨z, by simpa using fun z => e z.symm⟩)) h
            exact ⟨v, h1, h2.mono (same_upd k5)⟩
        · obtain ⟨m, n⟩ := List.mem_filter.mp hj
          have ne : i ≠ j := fun z => by subst z; simp at n
          obtain ⟨b, zs, fs, m1, m2, m3, m4, m5, m6⟩ := S.ow j d m h
          have ab : b ≠ a := fun z => by
            subst z
            exact S.sep i j _ _ b hi m ne q h k2 m2
          exact ⟨b, zs, fs, m1, m2, m3, m4.mono (same_upd k5), by rw [upd_ne ab]; exact m5, m6⟩
  · refine ⟨F, Same.refl _, ?_⟩
    have e : own.filter (fun j => j != i) = own := List.filter_eq_self.mpr fun j hj => by
      have : j ≠ i := fun z => hi (z ▸ hj)
      simpa using this
    rw [e]
    exact S
/-- fewer owned slots -/
theorem Sim.freezeAll : ∀ (is : List Nat) {own : List Nat} {F : Hp}, Sim K cls B own σ H F ρ → ∃ F', Same F F' ∧ Sim K cls B (own.filter fun j => !is.contains j) σ H F' ρ
  | [], own, F, S => ⟨F, Same.refl _, by
      have e : own.filter (fun j => !([] : List Nat).contains j) = own := List.filter_eq_self.mpr fun j _ => rfl
      rw [e]; exact S⟩
  | i :: is, own, F, S => by
    obtain ⟨F1, s1, S1⟩ := S.freeze i
    obtain ⟨F2, s2, S2⟩ := Sim.freezeAll is S1
    refine ⟨F2, s1.trans s2, ?_⟩
    have e : (own.filter fun j => j != i).filter (fun j => !is.contains j) = own.filter fun j => !(i :: is).contains j := by
      rw [List.filter_filter]
      congr 1
      funext j
      rw [List.contains_cons]
      cases h : j == i <;> cases h2 : is.contains j <;> simp_all [bne]
    rw [← e]
    exact S2
/-- the same owned slots, otherwise written -/
theorem Sim.perm {own' : List Nat} (S : Sim K cls B own σ H F ρ) (h : ∀ i, i ∈ own ↔ i ∈ own') : Sim K cls B own' σ H F ρ :=
  ⟨S.b, S.len, fun i d hi => S.fro i d fun z => hi ((h i).mp z), fun i d hi => S.ow i d ((h i).mpr hi), fun i j d e a hi hj => S.sep i j d e a ((h i).mpr hi) ((h j).mpr hj)⟩
theorem Sim.shrink {own' : List Nat} (S : Sim K cls B own σ H F ρ) (h : ∀ i, i ∈ own' → i ∈ own) : ∃ F', Same F F' ∧ Sim K cls B own' σ H F' ρ := by
  obtain ⟨F', s, S'⟩ := S.freezeAll (own.filter fun i => !own'.contains i)
  refine ⟨F', s, S'.perm fun i => ⟨fun z => ?_, fun z => ?_⟩⟩
  · obtain ⟨a, b⟩ := List.mem_filter.mp z
    by_cases q : i ∈ own'
    · exact q
    · exfalso
      have : i ∈ own.filter fun i => !own'.contains i := List.mem_filter.mpr ⟨a, by simpa using q⟩
      rw [List.contains_iff_mem.mpr this] at b
      cases b
  · refine List.mem_filter.mpr ⟨h i z, ?_⟩
    cases q : (own.filter fun i => !own'.contains i).contains i with
    | false => rfl
    | true =>
      have := (List.mem_filter.mp (List.contains_iff_mem.mp q)).2
      rw [List.contains_iff_mem.mpr z] at this
      cases this
/-- forget what stands in slot i -/
theorem Sim.forget (S : Sim K cls B own σ H F ρ) (i : Nat) (u : Option V) : Sim K cls B own (σ.set i u) H F (ρ.set i none) := by
  have ne : ∀ {j e}, (ρ.set i none)[j]? = some (some e) → i ≠ j := fun {j e} q z => by
    subst z
    obtain ⟨z, _⟩ := get_set q
    cases z
  refine ⟨S.b, by rw [List.length_set, List.length_set]; exact S.len, fun j e hj q => ?_, fun j e hj q => ?_, fun j k e f c hj hk hne h1 h2 h3 h4 => ?_⟩
  · have n := ne q
    rw [get_set_ne n] at q ⊢
    exact S.fro j e hj q
  · have n := ne q
    rw [get_set_ne n] at q
    obtain ⟨a, xs, ds, m1, m2, m3⟩ := S.ow j e hj q
    exact ⟨a, xs, ds, m1, by rw [get_set_ne n]; exact m2, m3⟩
  · have n1 := ne h1
    have n2 := ne h2
    rw [get_set_ne n1] at h1 h3
    rw [get_set_ne n2] at h2 h4
    exact S.sep j k e f c hj hk hne h1 h2 h3 h4
end
end Fn

set_option Elab.async false
set_option linter.all false
set_option maxRecDepth 100000
/-! Expressions by the data that they give. -/
namespace Fn
open PySem PySem.Spec L2

/-- what comes of it: a value, an error of the n-th class, or nothing is said -/
inductive O (α : Type) where
  | ok (a : α) | ex (n : Nat) | bad
def O.bind {α β : Type} : O α → (α → O β) → O β
  | .ok a, f => f a
  | .ex n, _ => .ex n
  | .bad, _ => .bad
theorem O.bind_ok {α β : Type} (a : α) (f : α → O β) : O.bind (.ok a) f = f a := rfl
theorem O.bind_ex {α β : Type} (n : Nat) (f : α → O β) : O.bind (.ex n) f = .ex n := rfl
theorem O.bind_bad {α β : Type} (f : α → O β) : O.bind .bad f = .bad := rfl
def OPost {α : Type} (P : α → Prop) (E : Nat → Prop) : O α → Prop
  | .ok a => P a
  | .ex n => E n
  | .bad => False
theorem OPost.imp {α : Type} {P P' : α → Prop} {E E' : Nat → Prop} (h1 : ∀ a, P a → P' a) (h2 : ∀ n, E n → E' n) : ∀ {o : O α}, OPost P E o → OPost P' E' o
  | .ok a, h => h1 a h
  | .ex n, h => h2 n h
  | .bad, h => h
theorem OPost.bind {α β : Type} {P : β → Prop} {E : Nat → Prop} {f : α → O β} : ∀ {o : O α}, OPost P E (o.bind f) → OPost (fun a => OPost P E (f a)) E o
  | .ok _, h => h
  | .ex _, h => h
  | .bad, h => h

structure Ct where
  cls : Nat → Addr
  xc : Nat → Addr
  W : WX
  B : Hp × Hp
  fr : Bool

section
variable (K : PySem.W.Frag) (c : Ct)
/-- as Rep, or a list that stands in H alone, its items in F -/
def Rep1 (F H : Hp) (v : V) (d : D) : Prop := Rep K c.cls F v d ∨ ∃ a xs ds, v = .ref a ∧ d = .list ds ∧ H a = some (.lst xs) ∧ RepL K c.cls F xs ds
def RepB : Bool → Hp → Hp → V → D → Prop
  | true => fun F _ => Rep K c.cls F
  | false => Rep1 K c
def RepBL : Bool → Hp → Hp → List V → List D → Prop
  | true => fun F _ => RepL K c.cls F
  | false => fun F H => Paired (Rep1 K c F H)
def EP1 (b : Bool) (σ : St) (F H : Hp) (Q : VK) : O D → Prop := OPost (fun d => ∀ v H' F', Ext F H F' H' → RepB K c b F' H' v d → Q v H') fun n => ∀ H', Same H H' → c.W (.ref (c.xc n)) none σ H'
def TP1 (σ : St) (F H : Hp) (Q : Bool → Hp → Prop) : O Bool → Prop := OPost (fun k => ∀ H' F', Ext F H F' H' → Q k H') fun n => ∀ H', Same H H' → c.W (.ref (c.xc n)) none σ H'
def AP1 (b : Bool) (σ : St) (F H : Hp) (Q : List V → Hp → Prop) : O (List D) → Prop := OPost (fun ds => ∀ vs H' F', Ext F H F' H' → RepBL K c b F' H' vs ds → Q vs H') fun n => ∀ H', Same H H' → c.W (.ref (c.xc n)) none σ H'
def FE (own : List Nat) (b : Bool) (t : TE) (g : Rho → O D) : Prop := ∀ σ H F ρ Q, Sim K c.cls c.B own σ H F ρ → EP1 K c b σ F H Q (g ρ) → t σ H Q
def FT (own : List Nat) (t : TT) (g : Rho → O Bool) : Prop := ∀ σ H F ρ Q, Sim K c.cls c.B own σ H F ρ → TP1 c σ F H Q (g ρ) → t σ H Q
def FA (own : List Nat) (b : Bool) (t : TA) (g : Rho → O (List D)) : Prop := ∀ σ H F ρ Q, Sim K c.cls c.B own σ H F ρ → AP1 K c b σ F H Q (g ρ) → t σ H Q
/-- a new list that stands in H alone -/
def FO (own : List Nat) (t : TE) (g : Rho → O D) : Prop := ∀ σ H F ρ Q, Sim K c.cls c.B own σ H F ρ →
  OPost (fun d => ∃ ds, d = .list ds ∧ ∀ a xs H' F', Ext F H F' H' → H' a = some (.lst xs) → F' a = none → H a = none → RepL K c.cls F' xs ds → Q (.ref a) H') (fun n => ∀ H', Same H H' → c.W (.ref (c.xc n)) none σ H') (g ρ) → t σ H Q
end

section
variable {K : PySem.W.Frag} {c : Ct} {own : List Nat} {b : Bool} {F H F' H' : Hp} {σ : St} {ρ : Rho}
theorem Rep.one {v : V} {d : D} (r : Rep K c.cls F v d) : Rep1 K c F H v d := .inl r
theorem RepB.one {v : V} {d : D} (r : RepB K c b F H v d) : Rep1 K c F H v d := by
  cases b with
  | true => exact .inl r
  | false => exact r
theorem Rep1.ext {v : V} {d : D} (r : Rep1 K c F H v d) (e : Ext F H F' H') : Rep1 K c F' H' v d := by
  rcases r with r | ⟨a, xs, ds, h1, h2, h3, h4⟩
  · exact .inl (r.mono e.f)
  · exact .inr ⟨a, xs, ds, h1, h2, e.h _ _ h3, h4.mono e.f⟩
theorem RepB.ext {v : V} {d : D} (r : RepB K c b F H v d) (e : Ext F H F' H') : RepB K c b F' H' v d := by
  cases b with
  | true => exact Rep.mono e.f r
  | false => exact Rep1.ext r e
theorem Rep1.full {v : V} {d : D} (r : Rep1 K c F H v d) (s : Same F H) : Rep K c.cls H v d := by
  rcases r with r | ⟨a, xs, ds, rfl, rfl, h3, h4⟩
  · exact r.mono s
  · exact .ls h3 (h4.mono s)
theorem Rep1.lst {v : V} {ds : List D} (r : Rep1 K c F H v (.list ds)) (s : Same F H) : ∃ a xs, v = .ref a ∧ H a = some (.lst xs) ∧ RepL K c.cls F xs ds := by
  rcases r with r | ⟨a, xs, ds', rfl, e, h3, h4⟩
  · cases r with
    | ls h r => exact ⟨_, _, rfl, s _ _ h, r⟩
  · cases e
    exact ⟨a, xs, rfl, h3, h4⟩
theorem Rep1.tup {v : V} {ds : List D} (r : Rep1 K c F H v (.tuple ds)) (s : Same F H) : ∃ a xs, v = .ref a ∧ SqT K H a xs ∧ RepL K c.cls F xs ds ∧ Rep K c.cls F v (.tuple ds) := by
  rcases r with r | ⟨a, xs, ds', rfl, e, h3, h4⟩
  · cases r with
    | tp h r => exact ⟨_, _, rfl, Same.tup s h, r, .tp h r⟩
  · cases e
theorem Rep1.roL {v : V} {ds : List D} (r : Rep1 K c F H v (D.ro ds)) (s : Same F H) : ∃ a xs, v = .ref a ∧ SqL K H a xs ∧ RepL K c.cls F xs ds := by
  rcases r with r | ⟨a, xs, ds', rfl, e, h3, h4⟩
  · cases r with
    | ro h r => exact ⟨_, _, rfl, s.seq h, r⟩
  · cases e
theorem Rep1.obj {v : V} {k : Nat} {gs : List (D × D)} (r : Rep1 K c F H v (D.ob k gs)) (s : Same F H) : ∃ a dx fs, v = .ref a ∧ H a = some (.ins (c.cls k) dx fs) ∧ RepF K c.cls F fs gs := by
  rcases r with r | ⟨a, xs, ds', rfl, e, h3, h4⟩
  · cases r with
    | ob h r => exact ⟨_, _, _, rfl, s _ _ h, r⟩
  · cases e
theorem Rep1.int {v : V} {i : Int} (r : Rep1 K c F H v (.int i)) : v = .int i := by
  rcases r with r | ⟨a, xs, ds', rfl, e, h3, h4⟩
  · cases r; rfl
  · cases e
theorem Rep1.bl {v : V} {i : Bool} (r : Rep1 K c F H v (.bool i)) : v = .bl i := by
  rcases r with r | ⟨a, xs, ds', rfl, e, h3, h4⟩
  · cases r; rfl
  · cases e
theorem Rep1.str {v : V} {i : Str} (r : Rep1 K c F H v (.str i)) : v = .str i := by
  rcases r with r | ⟨a, xs, ds', rfl, e, h3, h4⟩
  · cases r; rfl
  · cases e
theorem Rep1.non {v : V} (r : Rep1 K c F H v .none) : v = .non := by
  rcases r with r | ⟨a, xs, ds', rfl, e, h3, h4⟩
  · cases r; rfl
  · cases e
theorem Rep1.len {v : V} {d : D} (r : Rep1 K c F H v d) : True := trivial

/-- behind a step that has grown the heaps the wish is the rest of the wish -/
theorem EP1.ext {Q : VK} {o : O D} (h : EP1 K c b σ F H Q o) (e : Ext F H F' H') : EP1 K c b σ F' H' Q o :=
  OPost.imp (fun _ q v H2 F2 e2 r => q v H2 F2 (e.trans e2) r) (fun _ q H2 s => q H2 (e.h.trans s)) h
theorem TP1.ext {Q : Bool → Hp → Prop} {o : O Bool} (h : TP1 c σ F H Q o) (e : Ext F H F' H') : TP1 c σ F' H' Q o :=
  OPost.imp (fun _ q H2 F2 e2 => q H2 F2 (e.trans e2)) (fun _ q H2 s => q H2 (e.h.trans s)) h
theorem AP1.ext {Q : List V → Hp → Prop} {o : O (List D)} (h : AP1 K c b σ F H Q o) (e : Ext F H F' H') : AP1 K c b σ F' H' Q o :=
  OPost.imp (fun _ q v H2 F2 e2 r => q v H2 F2 (e.trans e2) r) (fun _ q H2 s => q H2 (e.h.trans s)) h

theorem FE.weak {t : TE} {g : Rho → O D} (h : FE K c own true t g) : FE K c own false t g := fun σ H F ρ Q S q =>
  h σ H F ρ Q S (OPost.imp (fun _ q v H2 F2 e2 r => q v H2 F2 e2 (.inl r)) (fun _ q => q) q)
theorem FE.any {t : TE} {g : Rho → O D} (h : FE K c own true t g) : FE K c own b t g := by
  cases b with
  | true => exact h
  | false => exact h.weak
/-! ### names, constants -/
def gVar (i : Nat) : Rho → O D := fun ρ => match ρ[i]? with
  | some (some d) => .ok d
  | _ => .bad
theorem fe_var {i : Nat} (hi : own.contains i = false) : FE K c own b (tVar i) (gVar i) := FE.any fun σ H F ρ Q S q => by
  unfold gVar at q
  split at q
  · rename_i d e
    obtain ⟨v, h1, h2⟩ := S.fro i d (fun z => by rw [List.contains_iff_mem.mpr z] at hi; cases hi) e
    exact ⟨v, h1, q v H F (Ext.refl S.s) h2⟩
  · exact q.elim
theorem fe_varO {i : Nat} : FE K c own false (tVar i) (gVar i) := fun σ H F ρ Q S q => by
  unfold gVar at q
  split at q
  · rename_i d e
    by_cases hi : i ∈ own
    · obtain ⟨a, xs, ds, h0, h1, h2, h3, _, _⟩ := S.ow i d hi e
      exact ⟨_, h1, q _ H F (Ext.refl S.s) (.inr ⟨a, xs, ds, rfl, h0, h2, h3⟩)⟩
    · obtain ⟨v, h1, h2⟩ := S.fro i d hi e
      exact ⟨v, h1, q v H F (Ext.refl S.s) (.inl h2)⟩
  · exact q.elim
def gC (d : D) : Rho → O D := fun _ => .ok d
theorem fe_c {v : V} {d : D} (r : ∀ F, Rep K c.cls F v d) : FE K c own b (tC v) (gC d) := FE.any fun σ H F ρ Q S q => q v H F (Ext.refl S.s) (r F)
/-! ### two in a row, operators -/
def g2 (op : D → D → O D) (ga gb : Rho → O D) : Rho → O D := fun ρ => (ga ρ).bind fun d => (gb ρ).bind fun e => op d e
def g1 (op : D → O D) (ga : Rho → O D) : Rho → O D := fun ρ => (ga ρ).bind op
def OpF (K : PySem.W.Frag) (c : Ct) (b : Bool) (r : R2) (op : D → D → O D) : Prop := ∀ F H x y d e Q, Same F H → Rep1 K c F H x d → Rep1 K c F H y e →
  OPost (fun z => ∀ v H' F', Ext F H F' H' → RepB K c b F' H' v z → Q v H') (fun _ => False) (op d e) → r x y H Q
def UnF (K : PySem.W.Frag) (c : Ct) (b : Bool) (r : V → Hp → VK → Prop) (op : D → O D) : Prop := ∀ F H x d Q, Same F H → Rep1 K c F H x d →
  OPost (fun z => ∀ v H' F', Ext F H F' H' → RepB K c b F' H' v z → Q v H') (fun _ => False) (op d) → r x H Q
def noEx {α : Type} : O α → O α
  | .ex _ => .bad
  | o => o
theorem noEx_post {α : Type} {P : α → Prop} {E : Nat → Prop} {o : O α} (h : OPost P E (noEx o)) : OPost P (fun _ => False) o := by
  cases o with
  | ok a => exact h
  | ex n => exact h.elim
  | bad => exact h.elim
theorem fe_op {r : R2} {op : D → D → O D} {ta tb : TE} {ga gb : Rho → O D} (ho : OpF K c b r op) (ha : FE K c own false ta ga) (hb : FE K c own false tb gb) : FE K c own b (tOp r ta tb) (g2 (fun d e => noEx (op d e)) ga gb) := fun σ H F ρ Q S q => by
  refine ha σ H F ρ _ S (OPost.imp (fun d q v H1 F1 e1 r1 => ?_) (fun _ q => q) (OPost.bind q))
  refine hb σ H1 F1 ρ _ (S.ext e1) (OPost.imp (fun e q w H2 F2 e2 r2 => ?_) (fun _ q H2 s => q H2 (e1.h.trans s)) (OPost.bind q))
  refine ho F2 H2 v w d e Q e2.s (r1.ext e2) r2 (OPost.imp (fun z q u H3 F3 e3 r3 => q u H3 F3 ((e1.trans e2).trans e3) r3) (fun _ q => q) (noEx_post q))
theorem fe_un {r : V → Hp → VK → Prop} {op : D → O D} {ta : TE} {ga : Rho → O D} (ho : UnF K c b r op) (ha : FE K c own false ta ga) : FE K c own b (tUn r ta) (g1 (fun d => noEx (op d)) ga) := fun σ H F ρ Q S q => by
  refine ha σ H F ρ _ S (OPost.imp (fun d q v H1 F1 e1 r1 => ?_) (fun _ q => q) (OPost.bind q))
  exact ho F1 H1 v d Q e1.s r1 (OPost.imp (fun z q u H3 F3 e3 r3 => q u H3 F3 (e1.trans e3) r3) (fun _ q => q) (noEx_post q))
/-! ### arguments -/
def gNilA : Rho → O (List D) := fun _ => .ok []
def gConsA (g : Rho → O D) (gs : Rho → O (List D)) : Rho → O (List D) := fun ρ => (g ρ).bind fun d => (gs ρ).bind fun ds => .ok (d :: ds)
theorem RepBL.nil : RepBL K c b F H [] [] := by
  cases b with
  | true => exact .nil
  | false => exact .nil
theorem RepBL.cons {v : V} {vs : List V} {d : D} {ds : List D} (h : RepB K c b F H v d) (t : RepBL K c b F H vs ds) : RepBL K c b F H (v :: vs) (d :: ds) := by
  cases b with
  | true => exact RepL.cons h t
  | false => exact Paired.cons h t
theorem fa_nil : FA K c own b tNil gNilA := fun σ H F ρ Q S q => q [] H F (Ext.refl S.s) RepBL.nil
theorem fa_cons {t : TE} {ts : TA} {g : Rho → O D} {gs : Rho → O (List D)} (h : FE K c own b t g) (hs : FA K c own b ts gs) : FA K c own b (tCons t ts) (gConsA g gs) := fun σ H F ρ Q S q => by
  refine h σ H F ρ _ S (OPost.imp (fun d q v H1 F1 e1 r1 => ?_) (fun _ q => q) (OPost.bind q))
  refine hs σ H1 F1 ρ _ (S.ext e1) (OPost.imp (fun ds q vs H2 F2 e2 r2 => ?_) (fun _ q H2 s => q H2 (e1.h.trans s)) (OPost.bind q))
  exact q (v :: vs) H2 F2 (e1.trans e2) (RepBL.cons (r1.ext e2) r2)
theorem Paired.repL {vs : List V} {ds : List D} (h : RepL K c.cls F vs ds) : Paired (Rep1 K c F H) vs ds := by
  induction vs generalizing ds with
  | nil => cases h; exact .nil
  | cons v vs ih => cases h with
    | cons r t => exact .cons (.inl r) (ih t)
/-! ### built-in calls -/
def CallF (K : PySem.W.Frag) (c : Ct) (b : Bool) (r : List V → Hp → VK → Prop) (f : List D → O D) : Prop := ∀ F H xs ds Q, Same F H → Paired (Rep1 K c F H) xs ds →
  OPost (fun z => ∀ v H' F', Ext F H F' H' → RepB K c b F' H' v z → Q v H') (fun _ => False) (f ds) → r xs H Q
def gCall (f : List D → O D) (g : Rho → O (List D)) : Rho → O D := fun ρ => (g ρ).bind f
theorem fe_callB {r : List V → Hp → VK → Prop} {f : List D → O D} {t : TA} {g : Rho → O (List D)} (hf : CallF K c b r f) (h : FA K c own false t g) : FE K c own b (tCB r t) (gCall (fun ds => noEx (f ds)) g) := fun σ H F ρ Q S q => by
  refine h σ H F ρ _ S (OPost.imp (fun ds q vs H1 F1 e1 r1 => ?_) (fun _ q => q) (OPost.bind q))
  exact hf F1 H1 vs ds Q e1.s r1 (OPost.imp (fun z q u H3 F3 e3 r3 => q u H3 F3 (e1.trans e3) r3) (fun _ q => q) (noEx_post q))
/-! ### lists and tuples, written -/
def lim : Nat := 1000000
theorem lim_le : lim ≤ sizeLine := by rw [sizeLine_eq]; decide
theorem le_lim {n : Nat} (h : n ≤ lim) : n ≤ sizeLine := Nat.le_trans h lim_le
theorem lt_lim {n : Nat} (h : n < lim) : n < sizeLine := Nat.lt_of_lt_of_le h lim_le
def gTup (g : Rho → O (List D)) : Rho → O D := fun ρ => (g ρ).bind fun ds => if ds.length ≤ lim then .ok (.tuple ds) else .bad
def gLst (g : Rho → O (List D)) : Rho → O D := fun ρ => (g ρ).bind fun ds => if ds.length ≤ lim then .ok (.list ds) else .bad
theorem fe_tup {t : TA} {g : Rho → O (List D)} (h : FA K c own true t g) : FE K c own b (tTup t) (gTup g) := FE.any fun σ H F ρ Q S q => by
  refine h σ H F ρ _ S (OPost.imp (fun ds q vs H1 F1 e1 r1 => ?_) (fun _ q => q) (OPost.bind q))
  have rl : RepL K c.cls F1 vs ds := r1
  split at q
  · rename_i hl
    refine ⟨by rw [rl.length]; exact le_lim hl, fun p hp => ?_⟩
    exact q _ _ _ (e1.trans (Ext.new e1.s hp)) (.tp (SqT.of upd_same) (rl.mono (same_upd (e1.s.free hp))))
  · exact q.elim
theorem fo_lst {t : TA} {g : Rho → O (List D)} (h : FA K c own true t g) : FO K c own (tLst t) (gLst g) := fun σ H F ρ Q S q => by
  refine h σ H F ρ _ S (OPost.imp (fun ds q vs H1 F1 e1 r1 => ?_) (fun _ q => q) (OPost.bind q))
  have rl : RepL K c.cls F1 vs ds := r1
  split at q
  · rename_i hl
    obtain ⟨es, e, q⟩ := q
    cases e
    refine ⟨by rw [rl.length]; exact le_lim hl, fun p hp => ?_⟩
    exact q p vs _ F1 (e1.trans (Ext.newO e1.s hp)) upd_same (e1.s.free hp) (e1.h.free hp) rl
  · exact q.elim
/-- a new list is as good as one that stays -/
theorem FO.fe {t : TE} {g : Rho → O D} (h : FO K c own t g) (hl : ∀ ρ d, g ρ = .ok d → ∃ ds, d = .list ds) : FE K c own b t g := FE.any fun σ H F ρ Q S q => by
  refine h σ H F ρ Q S ?_
  cases hg : g ρ with
  | ok d =>
    rw [hg] at q
    obtain ⟨ds, rfl⟩ := hl ρ d hg
    refine ⟨ds, rfl, fun a xs H' F' e h1 h2 h3 r => ?_⟩
    exact q _ _ _ (e.keep h3 h1) (.ls upd_same (r.mono (same_upd h2)))
  | ex n => rw [hg] at q; exact q
  | bad => rw [hg] at q; exact q
theorem gLst_list {g : Rho → O (List D)} : ∀ ρ d, gLst g ρ = .ok d → ∃ ds, d = .list ds := fun ρ d h => by
  unfold gLst at h
  cases e : g ρ with
  | ok ds =>
    rw [e, O.bind_ok] at h
    split at h
    · cases h; exact ⟨ds, rfl⟩
    · cases h
  | ex n => rw [e] at h; cases h
  | bad => rw [e] at h; cases h
theorem fe_lst {t : TA} {g : Rho → O (List D)} (h : FA K c own true t g) : FE K c own b (tLst t) (gLst g) := (fo_lst h).fe gLst_list

/-! ### tests -/
def gBl (g : Rho → O D) : Rho → O Bool := fun ρ => (g ρ).bind fun d => match d with
  | .bool k => .ok k
  | _ => .bad
theorem ft_bl {t : TE} {g : Rho → O D} (h : FE K c own false t g) : FT K c own (tB t) (gBl g) := fun σ H F ρ Q S q => by
  refine h σ H F ρ _ S (OPost.imp (fun d q v H1 F1 e1 r1 => ?_) (fun _ q => q) (OPost.bind q))
  split at q
  · rename_i k
    have r1 : Rep1 K c F1 H1 v (.bool k) := r1
    exact ⟨k, r1.bl, q H1 F1 e1⟩
  · exact q.elim
theorem ft_test {t : TE} {g : Rho → O D} (h : FE K c own false t g) : FT K c own (tTest t) (gBl g) := ft_bl h
def truD : D → O Bool
  | .none => .ok false
  | .bool k => .ok k
  | .int i => .ok (i != 0)
  | .str x => if x.length ≤ lim then .ok ((x.length : Int) != 0) else .bad
  | .list ds => .ok (!ds.isEmpty)
  | .tuple ds => .ok (!ds.isEmpty)
  | .dict [(.none, .list ds)] => .ok (!ds.isEmpty)
  | .dict _ => .bad
def gTru (g : Rho → O D) : Rho → O Bool := fun ρ => (g ρ).bind truD
theorem isEmpty_repL {vs : List V} {ds : List D} (h : RepL K c.cls F vs ds) : vs.isEmpty = ds.isEmpty := by
  cases h <;> rfl
theorem ft_truth {t : TE} {g : Rho → O D} (h : FE K c own false t g) : FT K c own (fun σ H Q => t σ H fun x H' => ∃ k, TruV K x H' k ∧ Q k H') (gTru g) := fun σ H F ρ Q S q => by
  refine h σ H F ρ _ S (OPost.imp (fun d q v H1 F1 e1 r1 => ?_) (fun _ q => q) (OPost.bind q))
  have r1 : Rep1 K c F1 H1 v d := r1
  unfold truD at q
  split at q
  · rw [r1.non]; exact ⟨_, rfl, q H1 F1 e1⟩
  · rw [r1.bl]; exact ⟨_, rfl, q H1 F1 e1⟩
  · rw [r1.int]; exact ⟨_, rfl, q H1 F1 e1⟩
  · split at q
    · rename_i hl
      rw [r1.str]; exact ⟨_, ⟨le_lim hl, rfl⟩, q H1 F1 e1⟩
    · exact q.elim
  · obtain ⟨a, xs, rfl, h1, h2⟩ := r1.lst e1.s
    exact ⟨_, .inl ⟨xs, SqL.of h1, by rw [isEmpty_repL h2]⟩, q H1 F1 e1⟩
  · obtain ⟨a, xs, rfl, h1, h2, _⟩ := r1.tup e1.s
    exact ⟨_, .inr (.inl ⟨xs, h1, by rw [isEmpty_repL h2]⟩), q H1 F1 e1⟩
  · obtain ⟨a, xs, rfl, h1, h2⟩ := r1.roL e1.s
    exact ⟨_, .inl ⟨xs, h1, by rw [isEmpty_repL h2]⟩, q H1 F1 e1⟩
  · exact q.elim
def gNotT (g : Rho → O Bool) : Rho → O Bool := fun ρ => (g ρ).bind fun k => .ok (!k)
theorem ft_not {t : TT} {g : Rho → O Bool} (h : FT K c own t g) : FT K c own (tNot t) (gNotT g) := fun σ H F ρ Q S q =>
  h σ H F ρ _ S (OPost.imp (fun k q H1 F1 e1 => q H1 F1 e1) (fun _ q => q) (OPost.bind q))
def gAndT (g u : Rho → O Bool) : Rho → O Bool := fun ρ => (g ρ).bind fun k => if k = true then u ρ else .ok false
def gOrT (g u : Rho → O Bool) : Rho → O Bool := fun ρ => (g ρ).bind fun k => if k = true then .ok true else u ρ
theorem ft_and {t u : TT} {g g' : Rho → O Bool} (h : FT K c own t g) (h' : FT K c own u g') : FT K c own (tAnd t u) (gAndT g g') := fun σ H F ρ Q S q => by
  refine h σ H F ρ _ S (OPost.imp (fun k q H1 F1 e1 => ?_) (fun _ q => q) (OPost.bind q))
  cases k with
  | true =>
    rw [if_pos rfl] at q ⊢
    exact h' σ H1 F1 ρ Q (S.ext e1) (TP1.ext q e1)
  | false =>
    rw [if_neg Bool.false_ne_true] at q ⊢
    exact q H1 F1 e1
theorem ft_or {t u : TT} {g g' : Rho → O Bool} (h : FT K c own t g) (h' : FT K c own u g') : FT K c own (tOr t u) (gOrT g g') := fun σ H F ρ Q S q => by
  refine h σ H F ρ _ S (OPost.imp (fun k q H1 F1 e1 => ?_) (fun _ q => q) (OPost.bind q))
  cases k with
  | true =>
    rw [if_pos rfl] at q ⊢
    exact q H1 F1 e1
  | false =>
    rw [if_neg Bool.false_ne_true] at q ⊢
    exact h' σ H1 F1 ρ Q (S.ext e1) (TP1.ext q e1)
/-! ### and, or, not, if as values -/
def gAndV (g u : Rho → O D) : Rho → O D := fun ρ => (gBl g ρ).bind fun k => if k = true then u ρ else .ok (.bool false)
def gOrV (g u : Rho → O D) : Rho → O D := fun ρ => (gBl g ρ).bind fun k => if k = true then .ok (.bool true) else u ρ
def gNotV (g : Rho → O D) : Rho → O D := fun ρ => (gBl g ρ).bind fun k => .ok (.bool (!k))
theorem fe_and {t u : TE} {g g' : Rho → O D} (h : FE K c own false t g) (h' : FE K c own b u g') : FE K c own b (tAndV t u) (gAndV g g') := fun σ H F ρ Q S q => by
  refine h σ H F ρ _ S (OPost.imp (fun d q v H1 F1 e1 r1 => ?_) (fun _ q => q) (OPost.bind (OPost.bind q)))
  split at q
  · rename_i k
    have r1 : Rep1 K c F1 H1 v (.bool k) := r1
    refine ⟨k, r1.bl, ?_⟩
    cases k with
    | true => exact h' σ H1 F1 ρ Q (S.ext e1) (EP1.ext q e1)
    | false => exact q _ H1 F1 e1 (by cases b with | true => exact .bl _ | false => exact .inl (.bl _))
  · exact q.elim
theorem fe_or {t u : TE} {g g' : Rho → O D} (h : FE K c own false t g) (h' : FE K c own b u g') : FE K c own b (tOrV t u) (gOrV g g') := fun σ H F ρ Q S q => by
  refine h σ H F ρ _ S (OPost.imp (fun d q v H1 F1 e1 r1 => ?_) (fun _ q => q) (OPost.bind (OPost.bind q)))
  split at q
  · rename_i k
    have r1 : Rep1 K c F1 H1 v (.bool k) := r1
    refine ⟨k, r1.bl, ?_⟩
    cases k with
    | true => exact q _ H1 F1 e1 (by cases b with | true => exact .bl _ | false => exact .inl (.bl _))
    | false => exact h' σ H1 F1 ρ Q (S.ext e1) (EP1.ext q e1)
  · exact q.elim
theorem fe_not {t : TE} {g : Rho → O D} (h : FE K c own false t g) : FE K c own b (tNotV t) (gNotV g) := FE.any fun σ H F ρ Q S q => by
  refine h σ H F ρ _ S (OPost.imp (fun d q v H1 F1 e1 r1 => ?_) (fun _ q => q) (OPost.bind (OPost.bind q)))
  split at q
  · rename_i k
    have r1 : Rep1 K c F1 H1 v (.bool k) := r1
    exact ⟨k, r1.bl, q _ H1 F1 e1 (.bl _)⟩
  · exact q.elim
def gIf (g : Rho → O Bool) (u w : Rho → O D) : Rho → O D := fun ρ => (g ρ).bind fun k => if k = true then u ρ else w ρ
theorem fe_if {t : TT} {u w : TE} {g : Rho → O Bool} {g' g'' : Rho → O D} (h : FT K c own t g) (h' : FE K c own b u g') (h'' : FE K c own b w g'') : FE K c own b (tIf t u w) (gIf g g' g'') := fun σ H F ρ Q S q => by
  refine h σ H F ρ _ S (OPost.imp (fun k q H1 F1 e1 => ?_) (fun _ q => q) (OPost.bind q))
  cases k with
  | true =>
    rw [if_pos rfl] at q ⊢
    exact h' σ H1 F1 ρ Q (S.ext e1) (EP1.ext q e1)
  | false =>
    rw [if_neg Bool.false_ne_true] at q ⊢
    exact h'' σ H1 F1 ρ Q (S.ext e1) (EP1.ext q e1)
end
end Fn

set_option Elab.async false
set_option linter.all false
set_option maxRecDepth 100000
/-! A tuple times one is the tuple itself. -/
namespace Fn
open PySem PySem.Spec PyProof.Rows L2
theorem tuple_mul_one (l : Addr) (items : Array Value) (n : Nat) (dd : Option Addr) (sl : Array (Option Value)) (u : Tok) :
    Meets (Builtin.«tuple.__mul__» ⟨[.ref l, .int 1 u], []⟩) (fun _ R s => s.heap.get? l = some { cls := .type "tuple", dict := dd, data := .seq items n, slots := sl } ∧ R (.ok (.ret (Value.ref l))) s) :=
  .of_wp fun prog w A R s h => by
    obtain ⟨hp, g, d, t, os⟩ := s
    obtain ⟨hl, q⟩ := h
    have f1 := AutoSeq1.idx_int
    wp_walk using wpAny_loadPart' hl
    exact ⟨_, rfl, q⟩
def rRepT1 (K : PySem.W.Frag) : R2 := fun x y H Q => ∃ l xs, x = .ref l ∧ y = .int 1 ∧ SqT K H l xs ∧ Q (.ref l) H
theorem op_repT1 {X : Cx} : OpR X (binaryOp .Mult) (rRepT1 X.K) := by
  intro pins s σ H x y v u Q I rx ry h
  obtain ⟨l, xs, rfl, rfl, hT, q⟩ := h
  cases rx
  obtain ⟨t, rfl⟩ := ry
  obtain ⟨its, r, ⟨⟨kl, dd, data, sl⟩, ho, hc, n, hd⟩, hs⟩ := I.tuple hT
  simp only at hc hd
  subst hc
  subst hd
  have m2 := int_rmul_tuple 1 t l its.toArray n dd sl
  refine wpAny_binaryOp_repeat_ref (T := "tuple") (U := "int") (by decide) ⟨_, ho, rfl⟩ (fun s' => typeIs_int s' 1 t) noFill_tuple_mul F.fills_int_mul F.slot_int_rmul repeat_tuple F.slot_int_index.lookup ?_
  refine call_meets F.slot_int_rmul (typeIs_int s 1 t) F.entry_int_rmul (F.args_int_rmul_2 _ _) m2 ⟨ho, rfl, ⟨_, ho, rfl⟩, ?_⟩
  exact call_meets F.slot_tuple_mul ⟨_, ho, rfl⟩ F.entry_tuple_mul (F.args_tuple_mul_2 _ _) (tuple_mul_one l its.toArray n dd sl t) ⟨ho, .ref l, H, I, rfl, q⟩
end Fn

set_option Elab.async false
set_option linter.all false
set_option maxRecDepth 100000
/-! Operators, subscripts, built-in calls by data. -/
namespace Fn
open PySem PySem.Spec L2

section
variable {K : PySem.W.Frag} {c : Ct} {own : List Nat} {b : Bool} {F H F' H' : Hp} {σ : St} {ρ : Rho}
/-- an operator whose answer is a new list -/
def OpO (K : PySem.W.Frag) (c : Ct) (r : R2) (op : D → D → O (List D)) : Prop := ∀ F H x y d e Q, Same F H → Rep1 K c F H x d → Rep1 K c F H y e →
  OPost (fun ds => ∀ a xs H' F', Ext F H F' H' → H' a = some (.lst xs) → F' a = none → H a = none → RepL K c.cls F' xs ds → Q (.ref a) H') (fun _ => False) (op d e) → r x y H Q
def g2L (op : D → D → O (List D)) (ga gb : Rho → O D) : Rho → O D := fun ρ => (ga ρ).bind fun d => (gb ρ).bind fun e => (op d e).bind fun ds => .ok (.list ds)
theorem OPost.noex {α : Type} {P : α → Prop} {E : Nat → Prop} {o : O α} (h : OPost P E o) (hn : ∀ n, o ≠ .ex n) : OPost P (fun _ => False) o := by
  cases o with
  | ok a => exact h
  | ex n => exact absurd rfl (hn n)
  | bad => exact h.elim
theorem fo_op {r : R2} {op : D → D → O (List D)} {ta tb : TE} {ga gb : Rho → O D} (ho : OpO K c r op) (hn : ∀ d e n, op d e ≠ .ex n) (ha : FE K c own false ta ga) (hb : FE K c own false tb gb) : FO K c own (tOp r ta tb) (g2L op ga gb) := fun σ H F ρ Q S q => by
  refine ha σ H F ρ _ S (OPost.imp (fun d q v H1 F1 e1 r1 => ?_) (fun _ q => q) (OPost.bind q))
  refine hb σ H1 F1 ρ _ (S.ext e1) (OPost.imp (fun e q w H2 F2 e2 r2 => ?_) (fun _ q H2 s => q H2 (e1.h.trans s)) (OPost.bind q))
  refine ho F2 H2 v w d e Q e2.s (r1.ext e2) r2 (OPost.imp (fun ds q a xs H3 F3 e3 h1 h2 h3 r3 => ?_) (fun _ q => q) (OPost.noex (OPost.bind q) (hn d e)))
  obtain ⟨es, ee, q⟩ := q
  cases ee
  exact q a xs H3 F3 ((e1.trans e2).trans e3) h1 h2 ((e1.trans e2).h.free h3) r3

/-! ### whole numbers -/
def mulOk (i j : Int) : Bool := decide (i.natAbs.log2 + j.natAbs.log2 < 1000000) || (decide (-(2 ^ 64) < i ∧ i < 2 ^ 64) || decide (-(2 ^ 64) < j ∧ j < 2 ^ 64))
def repL (ds : List D) (k : Int) : O (List D) := if -(lim : Int) ≤ k ∧ k ≤ lim ∧ ds.length * k.toNat ≤ lim then .ok (List.replicate k.toNat ds).flatten else .bad
def dSub : D → D → O D
  | .int i, .int j => .ok (.int (i - j))
  | _, _ => .bad
def dFdiv : D → D → O D
  | .int i, .int j => if 0 < j ∧ j.natAbs.log2 < 9000 then .ok (.int (i / j)) else .bad
  | _, _ => .bad
def dMod : D → D → O D
  | .int i, .int j => if 0 < j then .ok (.int (i % j)) else .bad
  | _, _ => .bad
def dPow : D → D → O D
  | .int i, .int j => if 0 ≤ j ∧ j ≤ 1000000 ∧ i.natAbs < 2 ^ 64 then .ok (.int (i ^ j.toNat)) else .bad
  | _, _ => .bad
def dNeg : D → O D
  | .int i => .ok (.int (-i))
  | _ => .bad
theorem opf_int {r : R2} {C : Int → Int → Prop} {g : Int → Int → Int} {op : D → D → O D}
    (hr : ∀ i j H Q, C i j → Q (V.int (g i j)) H → r (.int i) (.int j) H Q)
    (ho : ∀ d e z, op d e = .ok z → ∃ i j, d = .int i ∧ e = .int j ∧ C i j ∧ z = .int (g i j)) (hx : ∀ d e n, op d e ≠ .ex n) : OpF K c b r op := fun F H x y d e Q s rx ry q => by
  cases h : op d e with
  | ok z =>
    rw [h] at q
    obtain ⟨i, j, rfl, rfl, hc, rfl⟩ := ho d e z h
    rw [rx.int, ry.int]
    exact hr i j H Q hc (q _ _ _ (Ext.refl s) (by cases b with | true => exact .int _ | false => exact .inl (.int _)))
  | ex n => exact absurd h (hx d e n)
  | bad => rw [h] at q; exact q.elim
theorem opf_blI {r : R2} {g : Int → Int → Bool} {op : D → D → O D}
    (hr : ∀ i j H Q, Q (V.bl (g i j)) H → r (.int i) (.int j) H Q)
    (ho : ∀ d e z, op d e = .ok z → ∃ i j, d = .int i ∧ e = .int j ∧ z = .bool (g i j)) (hx : ∀ d e n, op d e ≠ .ex n) : OpF K c b r op := fun F H x y d e Q s rx ry q => by
  cases h : op d e with
  | ok z =>
    rw [h] at q
    obtain ⟨i, j, rfl, rfl, rfl⟩ := ho d e z h
    rw [rx.int, ry.int]
    exact hr i j H Q (q _ _ _ (Ext.refl s) (by cases b with | true => exact .bl _ | false => exact .inl (.bl _)))
  | ex n => exact absurd h (hx d e n)
  | bad => rw [h] at q; exact q.elim
theorem opf_sub : OpF K c b (rI0 fun i j => .int (i - j)) dSub := opf_int (C := fun _ _ => True) (fun i j H Q _ q => ⟨i, j, rfl, rfl, q⟩)
  (fun d e z h => by unfold dSub at h; split at h <;> first | (cases h; exact ⟨_, _, rfl, rfl, trivial, rfl⟩) | cases h) (fun d e n h => by unfold dSub at h; split at h <;> cases h)
theorem opf_mod : OpF K c b (rI (fun _ j => 0 < j) fun i j => .int (i % j)) dMod := opf_int (C := fun _ j => 0 < j) (fun i j H Q h q => ⟨i, j, rfl, rfl, h, q⟩)
  (fun d e z h => by unfold dMod at h; split at h <;> first | (split at h <;> first | (cases h; exact ⟨_, _, rfl, rfl, ‹_›, rfl⟩) | cases h) | cases h) (fun d e n h => by unfold dMod at h; split at h <;> (try split at h) <;> cases h)
theorem opf_fdiv : OpF K c b (rI CDivW fun i j => .int (i / j)) dFdiv := opf_int (C := CDivW) (fun i j H Q h q => ⟨i, j, rfl, rfl, h, q⟩)
  (fun d e z h => by unfold dFdiv at h; split at h <;> first | (split at h <;> first | (cases h; exact ⟨_, _, rfl, rfl, ‹_›, rfl⟩) | cases h) | cases h) (fun d e n h => by unfold dFdiv at h; split at h <;> (try split at h) <;> cases h)
theorem opf_pow : OpF K c b (rI CPow fun i j => .int (i ^ j.toNat)) dPow := opf_int (C := CPow) (fun i j H Q h q => ⟨i, j, rfl, rfl, h, q⟩)
  (fun d e z h => by unfold dPow at h; split at h <;> first | (split at h <;> first | (cases h; exact ⟨_, _, rfl, rfl, ‹_›, rfl⟩) | cases h) | cases h) (fun d e n h => by unfold dPow at h; split at h <;> (try split at h) <;> cases h)
theorem unf_neg : UnF K c b (rU fun i => .int (-i)) dNeg := fun F H x d Q s rx q => by
  unfold dNeg at q
  split at q
  · rename_i i
    have rx : Rep1 K c F H x (.int i) := rx
    rw [rx.int]
    exact ⟨i, rfl, q _ _ _ (Ext.refl s) (by cases b with | true => exact .int _ | false => exact .inl (.int _))⟩
  · exact q.elim
def dLt : D → D → O D
  | .int i, .int j => .ok (.bool (decide (i < j)))
  | _, _ => .bad
def dLe : D → D → O D
  | .int i, .int j => .ok (.bool (decide (i ≤ j)))
  | _, _ => .bad
def dGt : D → D → O D
  | .int i, .int j => .ok (.bool (decide (j < i)))
  | _, _ => .bad
def dGe : D → D → O D
  | .int i, .int j => .ok (.bool (decide (j ≤ i)))
  | _, _ => .bad
theorem opf_lt : OpF K c b (rI0 fun i j => .bl (decide (i < j))) dLt := opf_blI (fun i j H Q q => ⟨i, j, rfl, rfl, q⟩)
  (fun d e z h => by unfold dLt at h; split at h <;> first | (cases h; exact ⟨_, _, rfl, rfl, rfl⟩) | cases h) (fun d e n h => by unfold dLt at h; split at h <;> cases h)
theorem opf_le : OpF K c b (rI0 fun i j => .bl (decide (i ≤ j))) dLe := opf_blI (fun i j H Q q => ⟨i, j, rfl, rfl, q⟩)
  (fun d e z h => by unfold dLe at h; split at h <;> first | (cases h; exact ⟨_, _, rfl, rfl, rfl⟩) | cases h) (fun d e n h => by unfold dLe at h; split at h <;> cases h)
theorem opf_gt : OpF K c b (rI0 fun i j => .bl (decide (j < i))) dGt := opf_blI (fun i j H Q q => ⟨i, j, rfl, rfl, q⟩)
  (fun d e z h => by unfold dGt at h; split at h <;> first | (cases h; exact ⟨_, _, rfl, rfl, rfl⟩) | cases h) (fun d e n h => by unfold dGt at h; split at h <;> cases h)
theorem opf_ge : OpF K c b (rI0 fun i j => .bl (decide (j ≤ i))) dGe := opf_blI (fun i j H Q q => ⟨i, j, rfl, rfl, q⟩)
  (fun d e z h => by unfold dGe at h; split at h <;> first | (cases h; exact ⟨_, _, rfl, rfl, rfl⟩) | cases h) (fun d e n h => by unfold dGe at h; split at h <;> cases h)
/-! ### + -/
def dCat : D → D → O (List D)
  | .list xs, .list ys => if xs.length + ys.length ≤ lim then .ok (xs ++ ys) else .bad
  | _, _ => .bad
theorem opo_cat : OpO K c rCat dCat := fun F H x y d e Q s rx ry q => by
  unfold dCat at q
  split at q
  · rename_i xs ys
    have rx : Rep1 K c F H x (.list xs) := rx
    have ry : Rep1 K c F H y (.list ys) := ry
    split at q
    · rename_i hl
      obtain ⟨a, us, rfl, h1, r1⟩ := rx.lst s
      obtain ⟨a2, us2, rfl, h2, r2⟩ := ry.lst s
      refine ⟨a, a2, us, us2, rfl, rfl, h1, h2, by rw [r1.length, r2.length]; exact le_lim hl, fun p hp => ?_⟩
      exact q p _ _ F (Ext.newO s hp) upd_same (s.free hp) hp (r1.append r2)
    · exact q.elim
  · exact q.elim
theorem dCat_ex : ∀ d e n, dCat d e ≠ .ex n := fun d e n h => by
  unfold dCat at h
  split at h <;> (try split at h) <;> cases h
def rAddS : R2 := fun x y H Q => ∃ i j, x = .str i ∧ y = .str j ∧ i.length + j.length ≤ sizeLine ∧ Q (.str (i ++ j)) H
def rAddAll (K : PySem.W.Frag) : R2 := fun x y H Q => rI0 (fun i j => .int (i + j)) x y H Q ∨ rCat x y H Q ∨ rCatT K x y H Q ∨ rAddS x y H Q
theorem op_addAll {X : Cx} : OpR X (binaryOp .Add) (rAddAll X.K) := op_add.or (op_cat.or (op_catT.or op_add_str))
def dAdd : D → D → O D
  | .int i, .int j => .ok (.int (i + j))
  | .list xs, .list ys => if xs.length + ys.length ≤ lim then .ok (.list (xs ++ ys)) else .bad
  | .tuple xs, .tuple ys => if xs ≠ [] ∧ xs.length + ys.length ≤ lim then .ok (.tuple (xs ++ ys)) else .bad
  | .str i, .str j => if i.length + j.length ≤ lim then .ok (.str (i ++ j)) else .bad
  | _, _ => .bad
theorem RepB.of {v : V} {d : D} (r : Rep K c.cls F v d) : RepB K c b F H v d := by
  cases b with
  | true => exact r
  | false => exact .inl r
theorem opf_add : OpF K c b (rAddAll K) dAdd := fun F H x y d e Q s rx ry q => by
  unfold dAdd at q
  split at q
  · rename_i i j
    have rx : Rep1 K c F H x (.int i) := rx
    have ry : Rep1 K c F H y (.int j) := ry
    exact .inl ⟨i, j, rx.int, ry.int, q _ _ _ (Ext.refl s) (.of (.int _))⟩
  · rename_i xs ys
    have rx : Rep1 K c F H x (.list xs) := rx
    have ry : Rep1 K c F H y (.list ys) := ry
    split at q
    · rename_i hl
      obtain ⟨a, us, rfl, h1, r1⟩ := rx.lst s
      obtain ⟨a2, us2, rfl, h2, r2⟩ := ry.lst s
      refine .inr (.inl ⟨a, a2, us, us2, rfl, rfl, h1, h2, by rw [r1.length, r2.length]; exact le_lim hl, fun p hp => ?_⟩)
      exact q _ _ _ (Ext.new s hp) (.of (.ls upd_same ((r1.append r2).mono (same_upd (s.free hp)))))
    · exact q.elim
  · rename_i xs ys
    have rx : Rep1 K c F H x (.tuple xs) := rx
    have ry : Rep1 K c F H y (.tuple ys) := ry
    split at q
    · rename_i hl
      obtain ⟨a, us, rfl, h1, r1, rr⟩ := rx.tup s
      obtain ⟨a2, us2, rfl, h2, r2, _⟩ := ry.tup s
      have ne : us ≠ [] := fun z => by
        subst z
        cases r1
        exact hl.1 rfl
      refine .inr (.inr (.inl ⟨a, a2, us, us2, rfl, rfl, h1, h2, ne, by rw [r1.length, r2.length]; exact le_lim hl.2, fun z => ?_, fun z p hp => ?_⟩))
      · subst z
        cases r2
        have q := q (.ref a) H F (Ext.refl s)
        rw [List.append_nil] at q
        exact q (.of rr)
      · exact q _ _ _ (Ext.new s hp) (.of (.tp (SqT.of upd_same) ((r1.append r2).mono (same_upd (s.free hp)))))
    · exact q.elim
  · rename_i i j
    have rx : Rep1 K c F H x (.str i) := rx
    have ry : Rep1 K c F H y (.str j) := ry
    split at q
    · rename_i hl
      exact .inr (.inr (.inr ⟨i, j, rx.str, ry.str, le_lim hl, q _ _ _ (Ext.refl s) (.of (.str _))⟩))
    · exact q.elim
  · exact q.elim
/-! ### * -/
def dRep : D → D → O (List D)
  | .list xs, .int k => repL xs k
  | _, _ => .bad
theorem repL_ok {xs : List D} {k : Int} {ys : List D} (h : repL xs k = .ok ys) : -(lim : Int) ≤ k ∧ k ≤ lim ∧ xs.length * k.toNat ≤ lim ∧ ys = (List.replicate k.toNat xs).flatten := by
  unfold repL at h
  split at h
  · rename_i q
    cases h
    exact ⟨q.1, q.2.1, q.2.2, rfl⟩
  · cases h
theorem opo_rep : OpO K c rRep dRep := fun F H x y d e Q s rx ry q => by
  unfold dRep at q
  split at q
  · rename_i xs k
    have rx : Rep1 K c F H x (.list xs) := rx
    have ry : Rep1 K c F H y (.int k) := ry
    cases h : repL xs k with
    | ok ys =>
      rw [h] at q
      obtain ⟨h1, h2, h3, rfl⟩ := repL_ok h
      obtain ⟨a, us, rfl, h4, r1⟩ := rx.lst s
      refine ⟨a, k, us, rfl, ry.int, h4, by unfold lim at h1; omega, by unfold lim at h2; omega, by rw [r1.length]; exact le_lim h3, fun p hp => ?_⟩
      exact q p _ _ F (Ext.newO s hp) upd_same (s.free hp) hp (r1.rep _)
    | ex n => rw [h] at q; exact q.elim
    | bad => rw [h] at q; exact q.elim
  · exact q.elim
theorem dRep_ex : ∀ d e n, dRep d e ≠ .ex n := fun d e n h => by
  unfold dRep repL at h
  split at h <;> (try split at h) <;> cases h
def rMulAll (K : PySem.W.Frag) : R2 := fun x y H Q => rI CMulW (fun i j => .int (i * j)) x y H Q ∨ rI CMul (fun i j => .int (i * j)) x y H Q ∨ rRep x y H Q ∨ rRepT K x y H Q ∨ rRepT1 K x y H Q
theorem op_mulAll {X : Cx} : OpR X (binaryOp .Mult) (rMulAll X.K) := op_mulW.or (op_mul.or (op_rep.or (op_repT.or op_repT1)))
def dMul : D → D → O D
  | .int i, .int j => if mulOk i j = true then .ok (.int (i * j)) else .bad
  | .list xs, .int k => (repL xs k).bind fun ys => .ok (.list ys)
  | .tuple xs, .int k => if xs ≠ [] ∧ 1 ≤ k ∧ k ≤ 1000 ∧ xs.length ≤ 1000 then .ok (.tuple (List.replicate k.toNat xs).flatten) else .bad
  | _, _ => .bad
theorem opf_mul : OpF K c b (rMulAll K) dMul := fun F H x y d e Q s rx ry q => by
  unfold dMul at q
  split at q
  · rename_i i j
    have rx : Rep1 K c F H x (.int i) := rx
    have ry : Rep1 K c F H y (.int j) := ry
    split at q
    · rename_i h
      have h0 := q _ _ _ (Ext.refl s) (.of (.int _))
      unfold mulOk at h
      rw [Bool.or_eq_true, Bool.or_eq_true] at h
      rcases h with h | h | h
      · exact .inl ⟨i, j, rx.int, ry.int, of_decide_eq_true (p := i.natAbs.log2 + j.natAbs.log2 < 1000000) h, h0⟩
      · exact .inr (.inl ⟨i, j, rx.int, ry.int, .inl (of_decide_eq_true h), h0⟩)
      · exact .inr (.inl ⟨i, j, rx.int, ry.int, .inr (of_decide_eq_true h), h0⟩)
    · exact q.elim
  · rename_i xs k
    refine .inr (.inr (.inl (opo_rep F H x y (.list xs) (.int k) Q s rx ry ?_)))
    replace q := OPost.bind q
    refine OPost.imp (fun ds q a us H1 F1 e1 h1 h2 h3 r1 => ?_) (fun _ q => q) q
    exact q _ _ _ (e1.keep h3 h1) (.of (.ls upd_same (r1.mono (same_upd h2))))
  · rename_i xs k
    have rx : Rep1 K c F H x (.tuple xs) := rx
    have ry : Rep1 K c F H y (.int k) := ry
    split at q
    · rename_i hl
      obtain ⟨a, us, rfl, h1, r1, rr⟩ := rx.tup s
      have ne : us ≠ [] := fun z => by
        subst z
        cases r1
        exact hl.1 rfl
      by_cases h2 : k = 1
      · subst h2
        have e : (List.replicate (1 : Int).toNat xs).flatten = xs := by
          show (List.replicate 1 xs).flatten = xs
          rw [List.replicate_one, List.flatten_singleton]
        rw [e] at q
        exact .inr (.inr (.inr (.inr ⟨a, us, rfl, ry.int, h1, q _ _ _ (Ext.refl s) (.of rr)⟩)))
      · refine .inr (.inr (.inr (.inl ⟨a, k, us, rfl, ry.int, h1, ne, by omega, hl.2.2.1, by rw [r1.length]; exact hl.2.2.2, fun p hp => ?_⟩)))
        exact q _ _ _ (Ext.new s hp) (.of (.tp (SqT.of upd_same) ((r1.rep _).mono (same_upd (s.free hp)))))
    · exact q.elim
  · exact q.elim
/-! ### ==, !=, in -/
def scalD : D → D → Bool
  | .none, .none => true | .none, .int _ => true | .int _, .none => true | .none, .bool _ => true | .bool _, .none => true | .none, .str _ => true | .str _, .none => true
  | .int _, .int _ => true | .bool _, .bool _ => true | .str _, .str _ => true
  | .int _, .str _ => true | .str _, .int _ => true | .bool _, .str _ => true | .str _, .bool _ => true
  | _, _ => false
def okEq (d : D) : Bool := plainD d && SeqAt.shaped d
def dEq (d e : D) : O D := if (scalD d e || (okEq d && okEq e)) = true then .ok (.bool (PyData.eqv d e)) else .bad
def dNe (d e : D) : O D := if (scalD d e || (okEq d && okEq e)) = true then .ok (.bool (!PyData.eqv d e)) else .bad
theorem scal_of {v w : V} {d e : D} (rx : Rep1 K c F H v d) (ry : Rep1 K c F H w e) (h : scalD d e = true) : scal v w = true ∧ decide (v = w) = PyData.eqv d e := by
  unfold scalD at h
  split at h <;> first
    | (cases h; done)
    | (simp only [rx.non, ry.non, rx.int, ry.int, rx.bl, ry.bl, rx.str, ry.str]; exact ⟨rfl, rfl⟩)
    | (rw [rx.non, ry.non]; exact ⟨rfl, rfl⟩)
    | (rw [rx.non, ry.int]; exact ⟨rfl, rfl⟩)
    | (rw [rx.int, ry.non]; exact ⟨rfl, rfl⟩)
    | (rw [rx.non, ry.bl]; exact ⟨rfl, rfl⟩)
    | (rw [rx.bl, ry.non]; exact ⟨rfl, rfl⟩)
    | (rw [rx.non, ry.str]; exact ⟨rfl, rfl⟩)
    | (rw [rx.str, ry.non]; exact ⟨rfl, rfl⟩)
    | (rw [rx.int, ry.int]; exact ⟨rfl, dec_int⟩)
    | (rw [rx.bl, ry.bl]; exact ⟨rfl, dec_bl⟩)
    | (rw [rx.str, ry.str]; exact ⟨rfl, dec_str⟩)
    | (rw [rx.int, ry.str]; exact ⟨rfl, rfl⟩)
    | (rw [rx.str, ry.int]; exact ⟨rfl, rfl⟩)
    | (rw [rx.bl, ry.str]; exact ⟨rfl, rfl⟩)
    | (rw [rx.str, ry.bl]; exact ⟨rfl, rfl⟩)
def rEqAll (K : PySem.W.Frag) : R2 := fun x y H Q => rEq x y H Q ∨ rEqD K x y H Q
def rNeAll (K : PySem.W.Frag) : R2 := fun x y H Q => rNe x y H Q ∨ rNeD K x y H Q
theorem op_eqAll {X : Cx} (hu : X.A.units + 64 < cLine) : OpR X (compareOp .Eq) (rEqAll X.K) := op_eq.or (op_eqD hu)
theorem op_neAll {X : Cx} (hu : X.A.units + 64 < cLine) : OpR X (compareOp .NotEq) (rNeAll X.K) := op_ne.or (op_neD hu)
theorem opf_eq : OpF K c b (rEqAll K) dEq := fun F H x y d e Q s rx ry q => by
  unfold dEq at q
  split at q
  · rename_i h
    have h0 := q _ _ _ (Ext.refl s) (.of (.bl _))
    rw [Bool.or_eq_true] at h
    rcases h with h | h
    · obtain ⟨h1, h2⟩ := scal_of rx ry h
      exact .inl ⟨h1, by rw [h2]; exact h0⟩
    · unfold okEq at h
      simp only [Bool.and_eq_true] at h
      exact .inr ⟨d, e, (rx.full s).dp h.1.1, (ry.full s).dp h.2.1, h.1.2, h.2.2, h0⟩
  · exact q.elim
theorem opf_ne : OpF K c b (rNeAll K) dNe := fun F H x y d e Q s rx ry q => by
  unfold dNe at q
  split at q
  · rename_i h
    have h0 := q _ _ _ (Ext.refl s) (.of (.bl _))
    rw [Bool.or_eq_true] at h
    rcases h with h | h
    · obtain ⟨h1, h2⟩ := scal_of rx ry h
      exact .inl ⟨h1, by rw [h2]; exact h0⟩
    · unfold okEq at h
      simp only [Bool.and_eq_true] at h
      exact .inr ⟨d, e, (rx.full s).dp h.1.1, (ry.full s).dp h.2.1, h.1.2, h.2.2, h0⟩
  · exact q.elim
def flatD : D → Bool
  | .none | .bool _ | .int _ | .str _ => true
  | _ => false
theorem flat_of {v : V} {d : D} (r : Rep1 K c F H v d) (h : flatD d = true) : flatV v = true := by
  unfold flatD at h
  split at h <;> first
    | (cases h; done)
    | (rw [r.non]; rfl) | (rw [r.bl]; rfl) | (rw [r.int]; rfl) | (rw [r.str]; rfl)
theorem eqV_of {v w : V} {d e : D} (rx : Rep1 K c F H v d) (ry : Rep1 K c F H w e) (hx : flatD d = true) (hy : flatD e = true) : eqV v w = PyData.eqv d e := by
  unfold flatD at hx hy
  split at hx <;> first
    | (cases hx; done)
    | (split at hy <;> first
        | (cases hy; done)
        | (rw [rx.non, ry.non]; rfl) | (rw [rx.non, ry.bl]; rfl) | (rw [rx.non, ry.int]; rfl) | (rw [rx.non, ry.str]; rfl)
        | (rw [rx.bl, ry.non]; rfl) | (rw [rx.bl, ry.bl]; rfl) | (rw [rx.bl, ry.int]; rfl) | (rw [rx.bl, ry.str]; rfl)
        | (rw [rx.int, ry.non]; rfl) | (rw [rx.int, ry.bl]; rfl) | (rw [rx.int, ry.int]; rfl) | (rw [rx.int, ry.str]; rfl)
        | (rw [rx.str, ry.non]; rfl) | (rw [rx.str, ry.bl]; rfl) | (rw [rx.str, ry.int]; rfl) | (rw [rx.str, ry.str]; rfl))
theorem flats_of : ∀ {xs : List V} {ds : List D}, RepL K c.cls F xs ds → ds.all flatD = true → xs.all flatV = true
  | _, _, .nil, _ => rfl
  | _, _, .cons r t, h => by
    rw [List.all_cons, Bool.and_eq_true] at h ⊢
    exact ⟨flat_of (H := F) (.inl r) h.1, flats_of t h.2⟩
theorem inV_of {v : V} {d : D} (rx : Rep1 K c F H v d) (hx : flatD d = true) : ∀ {xs : List V} {ds : List D}, RepL K c.cls F xs ds → ds.all flatD = true → inV v xs = ds.any fun e => PyData.eqv e d
  | _, _, .nil, _ => rfl
  | _, _, .cons (v := w) (vs := ws) (d := e) (ds := es) r t, h => by
    rw [List.all_cons, Bool.and_eq_true] at h
    have h1 : eqV w v = PyData.eqv e d := eqV_of (H := H) (.inl r) rx h.1 hx
    have h2 := inV_of rx hx t h.2
    unfold inV at h2 ⊢
    rw [List.any_cons, List.any_cons, h1, h2]
def rInS (neg : Bool) : R2 := fun x y H Q => ∃ i j, x = .str i ∧ y = .str j ∧ Q (.bl (if neg then !(!(Builtin.Str.occurrences j i 0 j.length 1).isEmpty) else !(Builtin.Str.occurrences j i 0 j.length 1).isEmpty)) H
def rInAll (K : PySem.W.Frag) (neg : Bool) : R2 := fun x y H Q => rIn K neg x y H Q ∨ rInS neg x y H Q
theorem op_inAll {X : Cx} : OpR X (compareOp .In) (rInAll X.K false) := op_in_seq.or op_in_str
theorem op_notInAll {X : Cx} : OpR X (compareOp .NotIn) (rInAll X.K true) := op_notIn_seq.or op_notIn_str
def dInB : D → D → O Bool
  | d, .list es => if (flatD d && es.all flatD) = true then .ok (es.any fun e => PyData.eqv e d) else .bad
  | d, .tuple es => if (flatD d && es.all flatD) = true then .ok (es.any fun e => PyData.eqv e d) else .bad
  | .str i, .str j => .ok (!(Builtin.Str.occurrences j i 0 j.length 1).isEmpty)
  | _, _ => .bad
def negB : Bool → Bool → Bool
  | true, k => !k
  | false, k => k
theorem negB_if (neg k : Bool) : (if neg = true then !k else k) = negB neg k := by cases neg <;> rfl
def dIn (neg : Bool) (d e : D) : O D := (dInB d e).bind fun k => .ok (.bool (negB neg k))
theorem opf_in {neg : Bool} : OpF K c b (rInAll K neg) (dIn neg) := fun F H x y d e Q s rx ry q => by
  replace q := OPost.bind q
  unfold dInB at q
  split at q
  · rename_i es
    have ry : Rep1 K c F H y (.list es) := ry
    split at q
    · rename_i h
      rw [Bool.and_eq_true] at h
      obtain ⟨a, us, rfl, h1, r1⟩ := ry.lst s
      refine .inl ⟨a, us, rfl, .inl (SqL.of h1), flat_of rx h.1, flats_of r1 h.2, ?_⟩
      rw [inV_of rx h.1 r1 h.2, negB_if]
      exact q _ _ _ (Ext.refl s) (.of (.bl _))
    · exact q.elim
  · rename_i es
    have ry : Rep1 K c F H y (.tuple es) := ry
    split at q
    · rename_i h
      rw [Bool.and_eq_true] at h
      obtain ⟨a, us, rfl, h1, r1, _⟩ := ry.tup s
      refine .inl ⟨a, us, rfl, .inr h1, flat_of rx h.1, flats_of r1 h.2, ?_⟩
      rw [inV_of rx h.1 r1 h.2, negB_if]
      exact q _ _ _ (Ext.refl s) (.of (.bl _))
    · exact q.elim
  · rename_i i j
    have rx : Rep1 K c F H x (.str i) := rx
    have ry : Rep1 K c F H y (.str j) := ry
    refine .inr ⟨i, j, rx.str, ry.str, ?_⟩
    rw [negB_if]
    exact q _ _ _ (Ext.refl s) (.of (.bl _))
  · exact q.elim
def isNon : D → Bool
  | .none => true
  | _ => false
theorem isNon_of {v : V} {d : D} (r : Rep1 K c F H v d) : decide (v = .non) = isNon d := by
  rcases r with r | ⟨a, xs, ds, rfl, rfl, _⟩
  · cases r <;> rfl
  · rfl
def dIsN (d e : D) : O D := if isNon e = true then .ok (.bool (isNon d)) else .bad
def dNotN (d e : D) : O D := if isNon e = true then .ok (.bool (!isNon d)) else .bad
theorem non_of {v : V} {d : D} (r : Rep1 K c F H v d) (h : isNon d = true) : v = .non := by
  unfold isNon at h
  split at h
  · exact r.non
  · cases h
theorem opf_isN : OpF K c b (fun x y H Q => y = .non ∧ Q (.bl (decide (x = .non))) H) dIsN := fun F H x y d e Q s rx ry q => by
  unfold dIsN at q
  split at q
  · rename_i h
    refine ⟨non_of ry h, ?_⟩
    rw [isNon_of rx]
    exact q _ _ _ (Ext.refl s) (.of (.bl _))
  · exact q.elim
theorem opf_notN : OpF K c b (fun x y H Q => y = .non ∧ Q (.bl (!decide (x = .non))) H) dNotN := fun F H x y d e Q s rx ry q => by
  unfold dNotN at q
  split at q
  · rename_i h
    refine ⟨non_of ry h, ?_⟩
    rw [isNon_of rx]
    exact q _ _ _ (Ext.refl s) (.of (.bl _))
  · exact q.elim
/-! ### subscripts -/
def dIx : D → D → O D
  | .list ds, .int i => match atI ds i with
    | some d => .ok d
    | none => .bad
  | .tuple ds, .int i => match atI ds i with
    | some d => .ok d
    | none => .bad
  | .dict [(.none, .list ds)], .int i => match atI ds i with
    | some d => .ok d
    | none => .bad
  | .str z, .int i => if z.length ≤ lim then (match atI z.cps.toList i with
    | some x => .ok (.str ⟨#[x]⟩)
    | none => .bad) else .bad
  | _, _ => .bad
theorem atI_rep {xs : List V} {ds : List D} {i : Int} {d : D} (r : RepL K c.cls F xs ds) (h : atI ds i = some d) : ∃ v, atI xs i = some v ∧ Rep K c.cls F v d := by
  unfold atI at h ⊢
  rw [r.length]
  cases e : ixN ds.length i with
  | none => rw [e] at h; cases h
  | some j =>
    rw [e] at h
    exact r.get h
theorem opf_ix : OpF K c b (rIx K) dIx := fun F H x y d e Q s rx ry q => by
  unfold dIx at q
  split at q
  · rename_i ds i
    have rx : Rep1 K c F H x (.list ds) := rx
    have ry : Rep1 K c F H y (.int i) := ry
    split at q
    · rename_i d h
      obtain ⟨a, us, rfl, h1, r1⟩ := rx.lst s
      obtain ⟨v, h2, r2⟩ := atI_rep r1 h
      exact .inl ⟨a, us, i, v, rfl, ry.int, SqL.of h1, h2, q _ _ _ (Ext.refl s) (.of r2)⟩
    · exact q.elim
  · rename_i ds i
    have rx : Rep1 K c F H x (.tuple ds) := rx
    have ry : Rep1 K c F H y (.int i) := ry
    split at q
    · rename_i d h
      obtain ⟨a, us, rfl, h1, r1, _⟩ := rx.tup s
      obtain ⟨v, h2, r2⟩ := atI_rep r1 h
      exact .inr (.inl ⟨a, us, i, v, rfl, ry.int, h1, h2, q _ _ _ (Ext.refl s) (.of r2)⟩)
    · exact q.elim
  · rename_i ds i
    have rx : Rep1 K c F H x (D.ro ds) := rx
    have ry : Rep1 K c F H y (.int i) := ry
    split at q
    · rename_i d h
      obtain ⟨a, us, rfl, h1, r1⟩ := rx.roL s
      obtain ⟨v, h2, r2⟩ := atI_rep r1 h
      exact .inl ⟨a, us, i, v, rfl, ry.int, h1, h2, q _ _ _ (Ext.refl s) (.of r2)⟩
    · exact q.elim
  · rename_i z i
    have rx : Rep1 K c F H x (.str z) := rx
    have ry : Rep1 K c F H y (.int i) := ry
    split at q
    · rename_i hl
      split at q
      · rename_i d h
        exact .inr (.inr ⟨z, i, d, rx.str, ry.int, le_lim hl, h, q _ _ _ (Ext.refl s) (.of (.str _))⟩)
      · exact q.elim
    · exact q.elim
  · exact q.elim
end
end Fn

set_option Elab.async false
set_option linter.all false
set_option maxRecDepth 100000
/-! Slices, fields, built-in calls, own defs by data. -/
namespace Fn
open PySem PySem.Spec L2

section
variable {K : PySem.W.Frag} {c : Ct} {own : List Nat} {b : Bool} {F H F' H' : Hp} {σ : St} {ρ : Rho}
/-! ### slices -/
def PP1 (c : Ct) (σ : St) (F H : Hp) (Q : Option Int → Hp → Prop) : O (Option Int) → Prop := OPost (fun k => ∀ H' F', Ext F H F' H' → Q k H') fun n => ∀ H', Same H H' → c.W (.ref (c.xc n)) none σ H'
def FP (K : PySem.W.Frag) (c : Ct) (own : List Nat) (t : TO) (g : Rho → O (Option Int)) : Prop := ∀ σ H F ρ Q, Sim K c.cls c.B own σ H F ρ → PP1 c σ F H Q (g ρ) → t σ H Q
def gNoP : Rho → O (Option Int) := fun _ => .ok none
def gPart (g : Rho → O D) : Rho → O (Option Int) := fun ρ => (g ρ).bind fun d => match d with
  | .int i => .ok (some i)
  | _ => .bad
theorem fp_none : FP K c own tNoPart gNoP := fun σ H F ρ Q S q => q H F (Ext.refl S.s)
theorem fp_some {t : TE} {g : Rho → O D} (h : FE K c own false t g) : FP K c own (tPart t) (gPart g) := fun σ H F ρ Q S q => by
  refine h σ H F ρ _ S (OPost.imp (fun d q v H1 F1 e1 r1 => ?_) (fun _ q => q) (OPost.bind q))
  split at q
  · rename_i i
    have r1 : Rep1 K c F1 H1 v (.int i) := r1
    exact ⟨i, r1.int, q H1 F1 e1⟩
  · exact q.elim
def cutL {α : Type} (xs : List α) (lo hi : Option Int) : List α := (xs.drop (HT.sIx xs.length 0 lo)).take (HT.sIx xs.length xs.length hi - HT.sIx xs.length 0 lo)
theorem cut_rep {xs : List V} {ds : List D} (r : RepL K c.cls F xs ds) (lo hi : Option Int) : RepL K c.cls F (cutV xs lo hi) (cutL ds lo hi) := by
  unfold cutV cutL
  rw [r.length]
  exact RepL.take _ (RepL.drop _ r)
def wholeCut (n : Nat) (lo hi : Option Int) : Bool := decide (HT.sIx n 0 lo = 0) && decide (HT.sIx n n hi = n)
def rSlAll (K : PySem.W.Frag) : V → Option Int → Option Int → Hp → VK → Prop := fun x lo hi H Q => rSlL K x lo hi H Q ∨ rSlT K x lo hi H Q ∨ rSlS x lo hi H Q
theorem sl_all {X : Cx} : SlR X (rSlAll X.K) := sl_list.or (sl_tup.or sl_str)
def dSl : D → Option Int → Option Int → O D
  | .list ds, lo, hi => .ok (.list (cutL ds lo hi))
  | .tuple ds, lo, hi => if wholeCut ds.length lo hi = true then .bad else .ok (.tuple (cutL ds lo hi))
  | .str z, lo, hi => if z.length ≤ lim then .ok (.str (cutS z lo hi)) else .bad
  | _, _, _ => .bad
def gSl (g : Rho → O D) (gl gh : Rho → O (Option Int)) : Rho → O D := fun ρ => (g ρ).bind fun d => (gl ρ).bind fun lo => (gh ρ).bind fun hi => dSl d lo hi
theorem dSl_ex : ∀ d lo hi n, dSl d lo hi ≠ .ex n := fun d lo hi n h => by
  unfold dSl at h
  split at h <;> (try split at h) <;> cases h
theorem fe_slice {t : TE} {tl th : TO} {g : Rho → O D} {gl gh : Rho → O (Option Int)} (h : FE K c own false t g) (hl : FP K c own tl gl) (hh : FP K c own th gh) : FE K c own b (tSl (rSlAll K) t tl th) (gSl g gl gh) := fun σ H F ρ Q S q => by
  refine h σ H F ρ _ S (OPost.imp (fun d q v H1 F1 e1 r1 => ?_) (fun _ q => q) (OPost.bind q))
  refine hl σ H1 F1 ρ _ (S.ext e1) (OPost.imp (fun lo q H2 F2 e2 => ?_) (fun _ q H2 s => q H2 (e1.h.trans s)) (OPost.bind q))
  refine hh σ H2 F2 ρ _ ((S.ext e1).ext e2) (OPost.imp (fun hi q H3 F3 e3 => ?_) (fun _ q H2 s => q H2 ((e1.trans e2).h.trans s)) (OPost.bind q))
  have r3 : Rep1 K c F3 H3 v d := Rep1.ext r1 (e2.trans e3)
  have e := (e1.trans e2).trans e3
  unfold dSl at q
  split at q
  · rename_i ds _ _
    have r3 : Rep1 K c F3 H3 v (.list ds) := r3
    obtain ⟨a, us, rfl, h1, r⟩ := r3.lst e.s
    exact .inl ⟨a, us, rfl, SqL.of h1, fun p hp => q _ _ _ (e.trans (Ext.new e.s hp)) (.of (.ls upd_same ((cut_rep r _ _).mono (same_upd (e.s.free hp)))))⟩
  · rename_i ds _ _
    have r3 : Rep1 K c F3 H3 v (.tuple ds) := r3
    obtain ⟨a, us, rfl, h1, r, _⟩ := r3.tup e.s
    split at q
    · exact q.elim
    · rename_i hw
      refine .inr (.inl ⟨a, us, rfl, h1, fun z => hw ?_, fun p hp => q _ _ _ (e.trans (Ext.new e.s hp)) (.of (.tp (SqT.of upd_same) ((cut_rep r _ _).mono (same_upd (e.s.free hp)))))⟩)
      unfold wholeCut
      rw [← r.length, decide_eq_true z.1, decide_eq_true z.2]
      rfl
  · rename_i z _ _
    have r3 : Rep1 K c F3 H3 v (.str z) := r3
    split at q
    · rename_i hl
      exact .inr (.inr ⟨z, r3.str, le_lim hl, q _ _ _ e (.of (.str _))⟩)
    · exact q.elim
  · exact q.elim
def dSlL : D → Option Int → Option Int → O D
  | .list ds, lo, hi => .ok (.list (cutL ds lo hi))
  | _, _, _ => .bad
def gSlL (g : Rho → O D) (gl gh : Rho → O (Option Int)) : Rho → O D := fun ρ => (g ρ).bind fun d => (gl ρ).bind fun lo => (gh ρ).bind fun hi => dSlL d lo hi
theorem fo_slice {t : TE} {tl th : TO} {g : Rho → O D} {gl gh : Rho → O (Option Int)} (h : FE K c own false t g) (hl : FP K c own tl gl) (hh : FP K c own th gh) : FO K c own (tSl (rSlL K) t tl th) (gSlL g gl gh) := fun σ H F ρ Q S q => by
  refine h σ H F ρ _ S (OPost.imp (fun d q v H1 F1 e1 r1 => ?_) (fun _ q => q) (OPost.bind q))
  refine hl σ H1 F1 ρ _ (S.ext e1) (OPost.imp (fun lo q H2 F2 e2 => ?_) (fun _ q H2 s => q H2 (e1.h.trans s)) (OPost.bind q))
  refine hh σ H2 F2 ρ _ ((S.ext e1).ext e2) (OPost.imp (fun hi q H3 F3 e3 => ?_) (fun _ q H2 s => q H2 ((e1.trans e2).h.trans s)) (OPost.bind q))
  have r3 : Rep1 K c F3 H3 v d := Rep1.ext r1 (e2.trans e3)
  have e := (e1.trans e2).trans e3
  unfold dSlL at q
  split at q
  · rename_i ds _ _
    have r3 : Rep1 K c F3 H3 v (.list ds) := r3
    obtain ⟨a, us, rfl, h1, r⟩ := r3.lst e.s
    obtain ⟨es, ee, q⟩ := q
    cases ee
    exact ⟨a, us, rfl, SqL.of h1, fun p hp => q p _ _ F3 (e.trans (Ext.newO e.s hp)) upd_same (e.s.free hp) (e.h.free hp) (cut_rep r _ _)⟩
  · exact q.elim
/-! ### fields -/
def gFld (f : Str) (k : Nat) (g : Rho → O D) : Rho → O D := fun ρ => (g ρ).bind fun d => match d with
  | .dict ((.bool true, .int j) :: gs) => if j = (k : Int) then (match fieldD f gs with
    | some e => .ok e
    | none => .bad) else .bad
  | _ => .bad
theorem fe_fld {t : TE} {g : Rho → O D} {f : Str} {k : Nat} (cl : Cls K (c.cls k)) (na : NoAttr K (c.cls k) f) (h : FE K c own false t g) : FE K c own b (tFld K t f) (gFld f k g) := fun σ H F ρ Q S q => by
  refine h σ H F ρ _ S (OPost.imp (fun d q v H1 F1 e1 r1 => ?_) (fun _ q => q) (OPost.bind q))
  split at q
  · rename_i j gs
    split at q
    · rename_i hj
      subst hj
      split at q
      · rename_i e hf
        have r1 : Rep1 K c F1 H1 v (D.ob k gs) := r1
        obtain ⟨a, dx, fs, rfl, h1, rf⟩ := r1.obj e1.s
        obtain ⟨w, h2, r2⟩ := rf.lookup hf
        exact ⟨a, c.cls k, dx, fs, w, rfl, h1, cl, na, h2, q _ _ _ e1 (.of r2)⟩
      · exact q.elim
    · exact q.elim
  · exact q.elim
/-! ### built-in calls -/
def bLen : List D → O D
  | [.list ds] => .ok (.int ds.length)
  | [.tuple ds] => .ok (.int ds.length)
  | [.dict [(.none, .list ds)]] => .ok (.int ds.length)
  | [.str z] => if z.length ≤ lim then .ok (.int z.length) else .bad
  | _ => .bad
theorem paired1 {α β : Type} {G : α → β → Prop} {xs : List α} {y : β} (h : Paired G xs [y]) : ∃ x, xs = [x] ∧ G x y := by
  cases h with
  | cons r t => cases t; exact ⟨_, rfl, r⟩
theorem paired2 {α β : Type} {G : α → β → Prop} {xs : List α} {y z : β} (h : Paired G xs [y, z]) : ∃ x x', xs = [x, x'] ∧ G x y ∧ G x' z := by
  cases h with
  | cons r t =>
    obtain ⟨x', rfl, r'⟩ := paired1 t
    exact ⟨_, _, rfl, r, r'⟩
theorem cf_len : CallF K c b (fun xs H Q => ∃ x n, xs = [x] ∧ LenV K x H n ∧ Q (.int n) H) bLen := fun F H xs ds Q s r q => by
  unfold bLen at q
  split at q
  · rename_i ds
    obtain ⟨x, rfl, rr⟩ := paired1 r
    have r : Rep1 K c F H x (.list ds) := rr
    obtain ⟨a, us, rfl, h1, r1⟩ := r.lst s
    exact ⟨_, us.length, rfl, .inl ⟨us, SqL.of h1, rfl⟩, by rw [r1.length]; exact q _ _ _ (Ext.refl s) (.of (.int _))⟩
  · rename_i ds
    obtain ⟨x, rfl, rr⟩ := paired1 r
    have r : Rep1 K c F H x (.tuple ds) := rr
    obtain ⟨a, us, rfl, h1, r1, _⟩ := r.tup s
    exact ⟨_, us.length, rfl, .inr ⟨us, h1, rfl⟩, by rw [r1.length]; exact q _ _ _ (Ext.refl s) (.of (.int _))⟩
  · rename_i ds
    obtain ⟨x, rfl, rr⟩ := paired1 r
    have r : Rep1 K c F H x (D.ro ds) := rr
    obtain ⟨a, us, rfl, h1, r1⟩ := r.roL s
    exact ⟨_, us.length, rfl, .inl ⟨us, h1, rfl⟩, by rw [r1.length]; exact q _ _ _ (Ext.refl s) (.of (.int _))⟩
  · rename_i z
    obtain ⟨x, rfl, rr⟩ := paired1 r
    have r : Rep1 K c F H x (.str z) := rr
    split at q
    · rename_i hl
      exact ⟨_, z.length, rfl, by rw [r.str]; exact ⟨le_lim hl, rfl⟩, q _ _ _ (Ext.refl s) (.of (.int _))⟩
    · exact q.elim
  · exact q.elim
/-- list(x): a new list -/
def rListOf (K : PySem.W.Frag) : List V → Hp → VK → Prop := fun xs H Q => ∃ p ys, xs = [.ref p] ∧ (SqL K H p ys ∨ SqT K H p ys) ∧ ∀ l, H l = none → Q (.ref l) (upd H l (.lst ys))
def bListL : List D → O (List D)
  | [.list ds] => .ok ds
  | [.tuple ds] => .ok ds
  | [.dict [(.none, .list ds)]] => .ok ds
  | _ => .bad
def gListOf (g : Rho → O (List D)) : Rho → O D := fun ρ => (g ρ).bind fun ds => (bListL ds).bind fun es => .ok (.list es)
theorem fo_listOf {t : TA} {g : Rho → O (List D)} (h : FA K c own false t g) : FO K c own (tCB (rListOf K) t) (gListOf g) := fun σ H F ρ Q S q => by
  refine h σ H F ρ _ S (OPost.imp (fun ds q vs H1 F1 e r1 => ?_) (fun _ q => q) (OPost.bind q))
  replace q := OPost.bind q
  unfold bListL at q
  split at q
  · rename_i ds
    obtain ⟨x, rfl, rr⟩ := paired1 (show Paired (Rep1 K c F1 H1) vs [PyData.list ds] from r1)
    have r : Rep1 K c F1 H1 x (.list ds) := rr
    obtain ⟨a, us, rfl, h1, r2⟩ := r.lst e.s
    obtain ⟨es, ee, q⟩ := q
    cases ee
    exact ⟨a, us, rfl, .inl (SqL.of h1), fun p hp => q p _ _ F1 (e.trans (Ext.newO e.s hp)) upd_same (e.s.free hp) (e.h.free hp) r2⟩
  · rename_i ds
    obtain ⟨x, rfl, rr⟩ := paired1 (show Paired (Rep1 K c F1 H1) vs [PyData.tuple ds] from r1)
    have r : Rep1 K c F1 H1 x (.tuple ds) := rr
    obtain ⟨a, us, rfl, h1, r2, _⟩ := r.tup e.s
    obtain ⟨es, ee, q⟩ := q
    cases ee
    exact ⟨a, us, rfl, .inr h1, fun p hp => q p _ _ F1 (e.trans (Ext.newO e.s hp)) upd_same (e.s.free hp) (e.h.free hp) r2⟩
  · rename_i ds
    obtain ⟨x, rfl, rr⟩ := paired1 (show Paired (Rep1 K c F1 H1) vs [D.ro ds] from r1)
    have r : Rep1 K c F1 H1 x (D.ro ds) := rr
    obtain ⟨a, us, rfl, h1, r2⟩ := r.roL e.s
    obtain ⟨es, ee, q⟩ := q
    cases ee
    exact ⟨a, us, rfl, .inl h1, fun p hp => q p _ _ F1 (e.trans (Ext.newO e.s hp)) upd_same (e.s.free hp) (e.h.free hp) r2⟩
  · exact q.elim
theorem gListOf_list {g : Rho → O (List D)} : ∀ ρ d, gListOf g ρ = .ok d → ∃ ds, d = .list ds := fun ρ d h => by
  unfold gListOf at h
  cases e : g ρ with
  | ok ds =>
    rw [e, O.bind_ok] at h
    cases e2 : bListL ds with
    | ok es => rw [e2, O.bind_ok] at h; cases h; exact ⟨_, rfl⟩
    | ex n => rw [e2] at h; cases h
    | bad => rw [e2] at h; cases h
  | ex n => rw [e] at h; cases h
  | bad => rw [e] at h; cases h
theorem fe_listOf {t : TA} {g : Rho → O (List D)} (h : FA K c own false t g) : FE K c own b (tCB (rListOf K) t) (gListOf g) := (fo_listOf h).fe gListOf_list
/-- tuple(x) -/
def rTupOf (K : PySem.W.Frag) : List V → Hp → VK → Prop := fun xs H Q => ∃ p ys, xs = [.ref p] ∧ ((SqL K H p ys ∧ ∀ l, H l = none → Q (.ref l) (upd H l (.tup ys))) ∨ (SqT K H p ys ∧ Q (.ref p) H))
def bTup : List D → O D
  | [.list ds] => .ok (.tuple ds)
  | [.tuple ds] => .ok (.tuple ds)
  | _ => .bad
theorem cf_tup : CallF K c b (rTupOf K) bTup := fun F H xs ds Q s r q => by
  unfold bTup at q
  split at q
  · rename_i ds
    obtain ⟨x, rfl, rr⟩ := paired1 r
    have r : Rep1 K c F H x (.list ds) := rr
    obtain ⟨a, us, rfl, h1, r1⟩ := r.lst s
    exact ⟨a, us, rfl, .inl ⟨SqL.of h1, fun l hl => q _ _ _ (Ext.new s hl) (.of (.tp (SqT.of upd_same) (r1.mono (same_upd (s.free hl)))))⟩⟩
  · rename_i ds
    obtain ⟨x, rfl, rr⟩ := paired1 r
    have r : Rep1 K c F H x (.tuple ds) := rr
    obtain ⟨a, us, rfl, h1, r1, rr⟩ := r.tup s
    exact ⟨a, us, rfl, .inr ⟨h1, q _ _ _ (Ext.refl s) (.of rr)⟩⟩
  · exact q.elim
/-- isinstance(x, T), T a built-in class -/
def tyD : D → Option String
  | .none => some "NoneType"
  | .bool _ => some "bool"
  | .int _ => some "int"
  | .str _ => some "str"
  | .list _ => some "list"
  | .tuple _ => some "tuple"
  | .dict [(.none, .list _)] => some "list"
  | .dict _ => none
theorem ty_of {v : V} {d : D} {t : String} (r : Rep1 K c F H v d) (s : Same F H) (h : tyD d = some t) : TyX K H v (.type t) := by
  unfold tyD at h
  split at h <;> (try (cases h; done))
  all_goals (cases h)
  · rw [r.non]; exact .base .non
  · rw [r.bl]; exact .base (.bl _)
  · rw [r.int]; exact .base (.int _)
  · rw [r.str]; exact .base (.str _)
  · obtain ⟨a, us, rfl, h1, _⟩ := r.lst s
    exact .base (.lst h1)
  · obtain ⟨a, us, rfl, h1, _⟩ := r.tup s
    rcases h1 with (h1 | ⟨o, h1⟩) | ⟨o, its, n, h1, h2, _⟩
    · exact .base (.tup h1)
    · exact .fTuple h1
    · exact .kTuple h1 h2
  · obtain ⟨a, us, rfl, h1, _⟩ := r.roL s
    rcases h1 with (h1 | ⟨o, h1⟩) | ⟨o, its, n, h1, h2, _⟩
    · exact .base (.lst h1)
    · exact .base (.frz h1)
    · exact .kList h1 h2
def isTy (t u : String) : Bool := t == u || (t == "bool" && u == "int")
def bIsi (T : String) (d : D) : O D := match tyD d with
  | some t => .ok (.bool (isTy t T))
  | none => .bad
def KitOk (T : String) : Prop := ∀ t ∈ ["NoneType", "bool", "int", "str", "list", "tuple"], kitB t T = some (isTy t T)
theorem tyD_mem {d : D} {t : String} (h : tyD d = some t) : t ∈ ["NoneType", "bool", "int", "str", "list", "tuple"] := by
  unfold tyD at h
  split at h <;> first | (cases h; simp) | cases h
theorem kit_int : KitOk "int" := by unfold KitOk; decide +kernel
theorem kit_bool : KitOk "bool" := by unfold KitOk; decide +kernel
theorem kit_str : KitOk "str" := by unfold KitOk; decide +kernel
theorem kit_list : KitOk "list" := by unfold KitOk; decide +kernel
theorem kit_tuple : KitOk "tuple" := by unfold KitOk; decide +kernel
def gIsi (T : String) (g : Rho → O D) : Rho → O D := fun ρ => (g ρ).bind (bIsi T)
theorem fe_isi {T : String} {t : TE} {g : Rho → O D} (kt : KitOk T) (h : FE K c own false t g) : FE K c own b (tCB (rIsi K) (tCons t (tCons (tC (.ty T)) tNil))) (gIsi T g) := FE.any fun σ H F ρ Q S q => by
  refine h σ H F ρ _ S (OPost.imp (fun d q v H1 F1 e r1 => ?_) (fun _ q => q) (OPost.bind q))
  unfold bIsi at q
  split at q
  · rename_i t ht
    exact ⟨v, .ty T, .type t, .type T, isTy t T, rfl, .ty T, ty_of r1 e.s ht, kit_ty (kt t (tyD_mem ht)), q _ _ _ e (.bl _)⟩
  · exact q.elim
/-- all(xs), any(xs) of a list of True and False -/
def blsD : List D → Option (List Bool)
  | [] => some []
  | .bool k :: r => (blsD r).map (k :: ·)
  | _ => none
theorem blsD_eq : ∀ {ds : List D} {ks : List Bool}, blsD ds = some ks → ds = ks.map PyData.bool
  | [], ks, h => by cases h; rfl
  | .bool k :: r, ks, h => by
    unfold blsD at h
    cases e : blsD r with
    | none => rw [e] at h; cases h
    | some ls =>
      rw [e] at h
      cases h
      rw [blsD_eq e]
      rfl
  | .none :: _, _, h => by cases h
  | .int _ :: _, _, h => by cases h
  | .str _ :: _, _, h => by cases h
  | .list _ :: _, _, h => by cases h
  | .tuple _ :: _, _, h => by cases h
  | .dict _ :: _, _, h => by cases h
def bAll : List D → O D
  | [.list ds] => match blsD ds with
    | some ks => .ok (.bool (ks.all id))
    | none => .bad
  | _ => .bad
def bAny : List D → O D
  | [.list ds] => match blsD ds with
    | some ks => .ok (.bool (ks.any id))
    | none => .bad
  | _ => .bad
theorem cf_all : CallF K c b (rAll K) bAll := fun F H xs ds Q s r q => by
  unfold bAll at q
  split at q
  · rename_i ds
    split at q
    · rename_i ks hk
      obtain ⟨x, rfl, rr⟩ := paired1 r
      have r : Rep1 K c F H x (.list ds) := rr
      obtain ⟨a, us, rfl, h1, r1⟩ := r.lst s
      rw [blsD_eq hk] at r1
      exact ⟨a, ks, rfl, by rw [← RepL.of_bls ks r1]; exact SqL.of h1, q _ _ _ (Ext.refl s) (.of (.bl _))⟩
    · exact q.elim
  · exact q.elim
theorem cf_any : CallF K c b (rAny K) bAny := fun F H xs ds Q s r q => by
  unfold bAny at q
  split at q
  · rename_i ds
    split at q
    · rename_i ks hk
      obtain ⟨x, rfl, rr⟩ := paired1 r
      have r : Rep1 K c F H x (.list ds) := rr
      obtain ⟨a, us, rfl, h1, r1⟩ := r.lst s
      rw [blsD_eq hk] at r1
      exact ⟨a, ks, rfl, by rw [← RepL.of_bls ks r1]; exact SqL.of h1, q _ _ _ (Ext.refl s) (.of (.bl _))⟩
    · exact q.elim
  · exact q.elim
/-- ints -/
def intsD : List D → Option (List Int)
  | [] => some []
  | .int k :: r => (intsD r).map (k :: ·)
  | _ => none
theorem intsD_eq : ∀ {ds : List D} {ks : List Int}, intsD ds = some ks → ds = ks.map PyData.int
  | [], ks, h => by cases h; rfl
  | .int k :: r, ks, h => by
    unfold intsD at h
    cases e : intsD r with
    | none => rw [e] at h; cases h
    | some ls =>
      rw [e] at h
      cases h
      rw [intsD_eq e]
      rfl
  | .none :: _, _, h => by cases h
  | .bool _ :: _, _, h => by cases h
  | .str _ :: _, _, h => by cases h
  | .list _ :: _, _, h => by cases h
  | .tuple _ :: _, _, h => by cases h
  | .dict _ :: _, _, h => by cases h
theorem intsD_map (ks : List Int) : intsD (ks.map PyData.int) = some ks := by
  induction ks with
  | nil => rfl
  | cons k r ih => show (intsD (r.map PyData.int)).map (k :: ·) = _; rw [ih]; rfl
theorem blsD_map (ks : List Bool) : blsD (ks.map PyData.bool) = some ks := by
  induction ks with
  | nil => rfl
  | cons k r ih => show (blsD (r.map PyData.bool)).map (k :: ·) = _; rw [ih]; rfl
def bSum : List D → O D
  | [.list ds] => match intsD ds with
    | some ks => .ok (.int ks.sum)
    | none => .bad
  | _ => .bad
theorem cf_sum : CallF K c b (rSum K) bSum := fun F H xs ds Q s r q => by
  unfold bSum at q
  split at q
  · rename_i ds
    split at q
    · rename_i ks hk
      obtain ⟨x, rfl, rr⟩ := paired1 r
      have r : Rep1 K c F H x (.list ds) := rr
      obtain ⟨a, us, rfl, h1, r1⟩ := r.lst s
      rw [intsD_eq hk] at r1
      exact ⟨a, ks, rfl, by rw [← RepL.of_ints ks r1]; exact SqL.of h1, q _ _ _ (Ext.refl s) (.of (.int _))⟩
    · exact q.elim
  · exact q.elim
def maxL (x : Int) (xs : List Int) : Int := xs.foldl max x
def minL (x : Int) (xs : List Int) : Int := xs.foldl min x
theorem maxL_spec : ∀ (xs : List Int) (x : Int), maxL x xs ∈ x :: xs ∧ ∀ y ∈ x :: xs, y ≤ maxL x xs
  | [], x => ⟨List.mem_cons_self, fun y hy => by cases hy with | head => exact Int.le_refl _ | tail _ h => cases h⟩
  | z :: r, x => by
    obtain ⟨h1, h2⟩ := maxL_spec r (max x z)
    have e : maxL x (z :: r) = maxL (max x z) r := rfl
    rw [e]
    have h3 := h2 _ List.mem_cons_self
    refine ⟨?_, fun y hy => ?_⟩
    · rcases List.mem_cons.mp h1 with q | q
      · rw [q]
        by_cases hxz : x ≤ z
        · rw [Int.max_eq_right hxz]; exact List.mem_cons_of_mem _ List.mem_cons_self
        · rw [Int.max_eq_left (by omega)]; exact List.mem_cons_self
      · exact List.mem_cons_of_mem _ (List.mem_cons_of_mem _ q)
    · rcases List.mem_cons.mp hy with rfl | hy
      · exact Int.le_trans (Int.le_max_left _ _) h3
      · rcases List.mem_cons.mp hy with rfl | hy
        · exact Int.le_trans (Int.le_max_right _ _) h3
        · exact h2 y (List.mem_cons_of_mem _ hy)
theorem minL_spec : ∀ (xs : List Int) (x : Int), minL x xs ∈ x :: xs ∧ ∀ y ∈ x :: xs, minL x xs ≤ y
  | [], x => ⟨List.mem_cons_self, fun y hy => by cases hy with | head => exact Int.le_refl _ | tail _ h => cases h⟩
  | z :: r, x => by
    obtain ⟨h1, h2⟩ := minL_spec r (min x z)
    have e : minL x (z :: r) = minL (min x z) r := rfl
    rw [e]
    have h3 := h2 _ List.mem_cons_self
    refine ⟨?_, fun y hy => ?_⟩
    · rcases List.mem_cons.mp h1 with q | q
      · rw [q]
        by_cases hxz : x ≤ z
        · rw [Int.min_eq_left hxz]; exact List.mem_cons_self
        · rw [Int.min_eq_right (by omega)]; exact List.mem_cons_of_mem _ List.mem_cons_self
      · exact List.mem_cons_of_mem _ (List.mem_cons_of_mem _ q)
    · rcases List.mem_cons.mp hy with rfl | hy
      · exact Int.le_trans h3 (Int.min_le_left _ _)
      · rcases List.mem_cons.mp hy with rfl | hy
        · exact Int.le_trans h3 (Int.min_le_right _ _)
        · exact h2 y (List.mem_cons_of_mem _ hy)
def bMax : List D → O D
  | [.list ds] => match intsD ds with
    | some (k :: ks) => .ok (.int (maxL k ks))
    | _ => .bad
  | [.int i, .int j] => .ok (.int (if j > i then j else i))
  | _ => .bad
def bMin : List D → O D
  | [.list ds] => match intsD ds with
    | some (k :: ks) => .ok (.int (minL k ks))
    | _ => .bad
  | [.int i, .int j] => .ok (.int (if j < i then j else i))
  | _ => .bad
def rMaxAll (K : PySem.W.Frag) : List V → Hp → VK → Prop := fun xs H Q => rMax K xs H Q ∨ ∃ i j, xs = [.int i, .int j] ∧ Q (.int (if j > i then j else i)) H
def rMinAll (K : PySem.W.Frag) : List V → Hp → VK → Prop := fun xs H Q => rMin K xs H Q ∨ ∃ i j, xs = [.int i, .int j] ∧ Q (.int (if j < i then j else i)) H
theorem cr_maxAll {X : Cx} (hc : X.calm = true) : CallR X (.builtin "max") (rMaxAll X.K) := (cr_max hc).or (call_max2 hc)
theorem cr_minAll {X : Cx} (hc : X.calm = true) : CallR X (.builtin "min") (rMinAll X.K) := (cr_min hc).or (call_min2 hc)
theorem cf_max : CallF K c b (rMaxAll K) bMax := fun F H xs ds Q s r q => by
  unfold bMax at q
  split at q
  · rename_i ds
    split at q
    · rename_i k ks hk
      obtain ⟨x, rfl, rr⟩ := paired1 r
      have r : Rep1 K c F H x (.list ds) := rr
      obtain ⟨a, us, rfl, h1, r1⟩ := r.lst s
      rw [intsD_eq hk] at r1
      refine .inl ⟨a, k :: ks, rfl, by rw [← RepL.of_ints _ r1]; exact SqL.of h1, Nat.succ_pos _, fun m h2 h3 => ?_⟩
      obtain ⟨h4, h5⟩ := maxL_spec ks k
      have e : m = maxL k ks := Int.le_antisymm (h5 m h2) (h3 _ h4)
      rw [e]
      exact q _ _ _ (Ext.refl s) (.of (.int _))
    · exact q.elim
  · rename_i i j
    obtain ⟨x, y, rfl, r, r'⟩ := paired2 r
    have r : Rep1 K c F H x (.int i) := r
    have r' : Rep1 K c F H y (.int j) := r'
    exact .inr ⟨i, j, by rw [r.int, r'.int], q _ _ _ (Ext.refl s) (.of (.int _))⟩
  · exact q.elim
theorem cf_min : CallF K c b (rMinAll K) bMin := fun F H xs ds Q s r q => by
  unfold bMin at q
  split at q
  · rename_i ds
    split at q
    · rename_i k ks hk
      obtain ⟨x, rfl, rr⟩ := paired1 r
      have r : Rep1 K c F H x (.list ds) := rr
      obtain ⟨a, us, rfl, h1, r1⟩ := r.lst s
      rw [intsD_eq hk] at r1
      refine .inl ⟨a, k :: ks, rfl, by rw [← RepL.of_ints _ r1]; exact SqL.of h1, Nat.succ_pos _, fun m h2 h3 => ?_⟩
      obtain ⟨h4, h5⟩ := minL_spec ks k
      have e : m = minL k ks := Int.le_antisymm (h3 _ h4) (h5 m h2)
      rw [e]
      exact q _ _ _ (Ext.refl s) (.of (.int _))
    · exact q.elim
  · rename_i i j
    obtain ⟨x, y, rfl, r, r'⟩ := paired2 r
    have r : Rep1 K c F H x (.int i) := r
    have r' : Rep1 K c F H y (.int j) := r'
    exact .inr ⟨i, j, by rw [r.int, r'.int], q _ _ _ (Ext.refl s) (.of (.int _))⟩
  · exact q.elim
def bAbs : List D → O D
  | [.int i] => .ok (.int (if i < 0 then -i else i))
  | _ => .bad
theorem cf_abs : CallF K c b (fun xs H Q => ∃ i, xs = [.int i] ∧ Q (.int (if i < 0 then -i else i)) H) bAbs := fun F H xs ds Q s r q => by
  unfold bAbs at q
  split at q
  · rename_i i
    obtain ⟨x, rfl, rr⟩ := paired1 r
    have r : Rep1 K c F H x (.int i) := rr
    exact ⟨i, by rw [r.int], q _ _ _ (Ext.refl s) (.of (.int _))⟩
  · exact q.elim
/-- int(n), int(flag), int(text) of a text that writes one -/
def rIntAll : List V → Hp → VK → Prop := fun xs H Q => ((∃ i, xs = [.int i] ∧ Q (.int i) H) ∨ ∃ k, xs = [.bl k] ∧ Q (.int (if k then 1 else 0)) H) ∨ ∃ a n, xs = [.str a] ∧ PySem.intText? a = some n ∧ a.length ≤ 640 ∧ Q (.int n) H
theorem cr_intAll {X : Cx} : CallR X (.type "int") rIntAll := call_int1.or call_int_str
def bInt : List D → O D
  | [.int i] => .ok (.int i)
  | [.bool k] => .ok (.int (if k then 1 else 0))
  | [.str a] => if a.length ≤ 640 then (match PySem.intText? a with
    | some n => .ok (.int n)
    | none => .bad) else .bad
  | _ => .bad
theorem cf_int : CallF K c b rIntAll bInt := fun F H xs ds Q s r q => by
  unfold bInt at q
  split at q
  · rename_i i
    obtain ⟨x, rfl, rr⟩ := paired1 r
    have r : Rep1 K c F H x (.int i) := rr
    exact .inl (.inl ⟨i, by rw [r.int], q _ _ _ (Ext.refl s) (.of (.int _))⟩)
  · rename_i i
    obtain ⟨x, rfl, rr⟩ := paired1 r
    have r : Rep1 K c F H x (.bool i) := rr
    exact .inl (.inr ⟨i, by rw [r.bl], q _ _ _ (Ext.refl s) (.of (.int _))⟩)
  · rename_i a
    obtain ⟨x, rfl, rr⟩ := paired1 r
    have r : Rep1 K c F H x (.str a) := rr
    split at q
    · rename_i hl
      split at q
      · rename_i n hn
        exact .inr ⟨a, n, by rw [r.str], hn, hl, q _ _ _ (Ext.refl s) (.of (.int _))⟩
      · exact q.elim
    · exact q.elim
  · exact q.elim
/-- str(n) -/
def bStr : List D → O D
  | [.int i] => if i.natAbs.log2 < 1920 then .ok (.str (toString i)) else .bad
  | _ => .bad
theorem cf_str : CallF K c b (fun xs H Q => ∃ i, xs = [.int i] ∧ i.natAbs.log2 < 1920 ∧ Q (.str (toString i)) H) bStr := fun F H xs ds Q s r q => by
  unfold bStr at q
  split at q
  · rename_i i
    obtain ⟨x, rfl, rr⟩ := paired1 r
    have r : Rep1 K c F H x (.int i) := rr
    split at q
    · rename_i hl
      exact ⟨i, by rw [r.int], hl, q _ _ _ (Ext.refl s) (.of (.str _))⟩
    · exact q.elim
  · exact q.elim
/-! ### chains of comparisons -/
def gChain (op op' : D → D → O D) (ga gb gc : Rho → O D) : Rho → O D := fun ρ => (ga ρ).bind fun d => (gb ρ).bind fun e => (noEx (op d e)).bind fun z => match z with
  | .bool k => if k = true then (gc ρ).bind fun f => noEx (op' e f) else .ok (.bool false)
  | _ => .bad
theorem noEx_bind {α β : Type} {P : β → Prop} {E : Nat → Prop} {o : O α} {f : α → O β} (h : OPost P E ((noEx o).bind f)) : OPost (fun a => OPost P E (f a)) (fun _ => False) o := by
  cases o with
  | ok a => exact h
  | ex n => exact h.elim
  | bad => exact h.elim
theorem fe_chain {r r' : R2} {op op' : D → D → O D} {ta tb tc : TE} {ga gb gc : Rho → O D} (ho : OpF K c true r op) (ho' : OpF K c b r' op') (ha : FE K c own false ta ga) (hb : FE K c own false tb gb) (hc : FE K c own false tc gc) :
    FE K c own b (tChain r r' ta tb tc) (gChain op op' ga gb gc) := fun σ H F ρ Q S q => by
  refine ha σ H F ρ _ S (OPost.imp (fun d q v H1 F1 e1 r1 => ?_) (fun _ q => q) (OPost.bind q))
  refine hb σ H1 F1 ρ _ (S.ext e1) (OPost.imp (fun e q w H2 F2 e2 r2 => ?_) (fun _ q H2 s => q H2 (e1.h.trans s)) (OPost.bind q))
  have r2 : Rep1 K c F2 H2 w e := r2
  refine ho F2 H2 v w d e _ e2.s (r1.ext e2) r2 (OPost.imp (fun z q u H3 F3 e3 r3 => ?_) (fun _ q => q) (noEx_bind q))
  split at q
  · rename_i k
    cases (show Rep K c.cls F3 u (.bool k) from r3)
    refine ⟨k, rfl, ?_⟩
    have e123 := (e1.trans e2).trans e3
    split at q
    · rename_i hk
      subst hk
      rw [if_pos rfl]
      refine hc σ H3 F3 ρ _ (S.ext e123) (OPost.imp (fun f q y H4 F4 e4 r4 => ?_) (fun _ q H2 s => q H2 (e123.h.trans s)) (OPost.bind q))
      exact ho' F4 H4 w y e f Q e4.s (r2.ext (e3.trans e4)) r4 (OPost.imp (fun z q u H5 F5 e5 r5 => q u H5 F5 ((e123.trans e4).trans e5) r5) (fun _ q => q) (noEx_post q))
    · rename_i hk
      rw [if_neg hk]
      exact q _ _ _ e123 (.of (.bl _))
  · exact q.elim
end
end Fn

set_option Elab.async false
set_option linter.all false
set_option maxRecDepth 100000
/-! Statements by data. -/
namespace Fn
open PySem PySem.Spec L2

/-- how a statement ends -/
inductive R where
  | nx (ρ : Rho) | rt (d : D) | bk (ρ : Rho) | ct (ρ : Rho) | ex (n : Nat) | bad
def R.seq : R → (Rho → R) → R
  | .nx ρ, f => f ρ
  | r, _ => r
theorem R.seq_nx (ρ : Rho) (f : Rho → R) : (R.nx ρ).seq f = f ρ := rfl
theorem R.seq_rt (d : D) (f : Rho → R) : (R.rt d).seq f = .rt d := rfl
theorem R.seq_bk (ρ : Rho) (f : Rho → R) : (R.bk ρ).seq f = .bk ρ := rfl
theorem R.seq_ct (ρ : Rho) (f : Rho → R) : (R.ct ρ).seq f = .ct ρ := rfl
theorem R.seq_ex (n : Nat) (f : Rho → R) : (R.ex n).seq f = .ex n := rfl
theorem R.seq_bad (f : Rho → R) : R.bad.seq f = .bad := rfl
/-- from an expression's outcome on -/
def O.go {α : Type} : O α → (α → R) → R
  | .ok a, f => f a
  | .ex n, _ => .ex n
  | .bad, _ => .bad
theorem O.go_ok {α : Type} (a : α) (f : α → R) : (O.ok a).go f = f a := rfl
theorem O.go_ex {α : Type} (n : Nat) (f : α → R) : (O.ex n : O α).go f = .ex n := rfl
theorem O.go_bad {α : Type} (f : α → R) : (O.bad : O α).go f = .bad := rfl

section
variable (K : PySem.W.Frag) (c : Ct)
/-- what a return gives: data that stand frozen; or (fr) a list of its own, new -/
def RetP (F0 H0 : Hp) : Bool → VK → D → Prop
  | false, R, d => ∀ v H' F', Ext F0 H0 F' H' → Rep K c.cls F' v d → R v H'
  | true, R, d => ∃ ds, d = .list ds ∧ ∀ p xs H' F', Ext F0 H0 F' H' → H' p = some (.lst xs) → F' p = none → H0 p = none → RepL K c.cls F' xs ds → R (.ref p) H'
def SPost (ol own' : List Nat) (F : Hp) (D : Ends) : R → Prop
  | .nx ρ => ∀ σ' H' F', Same F F' → Sim K c.cls c.B own' σ' H' F' ρ → D.nx σ' H'
  | .rt d => RetP K c c.B.2 c.B.1 c.fr D.rt d
  | .bk ρ => ∀ σ' H' F', Same F F' → Sim K c.cls c.B ol σ' H' F' ρ → D.bk σ' H'
  | .ct ρ => ∀ σ' H' F', Same F F' → Sim K c.cls c.B ol σ' H' F' ρ → D.ct σ' H'
  | .ex n => ∀ σ' H', Same c.B.1 H' → c.W (.ref (c.xc n)) none σ' H'
  | .bad => False
def FS (ol own own' : List Nat) (t : TS) (g : Rho → R) : Prop := ∀ D σ H F ρ, Sim K c.cls c.B own σ H F ρ → SPost K c ol own' F D (g ρ) → t D σ H
end
section
variable {K : PySem.W.Frag} {c : Ct} {ol own own' own1 own2 : List Nat} {b : Bool} {F H F' H' : Hp} {σ : L2.St} {ρ : Rho} {D : Ends}
theorem SPost.mono {r : R} (h : SPost K c ol own' F D r) (s : Same F F') : SPost K c ol own' F' D r := by
  cases r with
  | nx ρ => exact fun σ' H' F2 e => h σ' H' F2 (s.trans e)
  | rt d => exact h
  | bk ρ => exact fun σ' H' F2 e => h σ' H' F2 (s.trans e)
  | ct ρ => exact fun σ' H' F2 e => h σ' H' F2 (s.trans e)
  | ex n => exact h
  | bad => exact h
/-- from an expression's outcome on -/
theorem SPost.go {α : Type} {P : α → Prop} {E : Nat → Prop} {f : α → R} : ∀ {o : O α}, SPost K c ol own' F D (o.go f) → (∀ a, SPost K c ol own' F D (f a) → P a) → (∀ n, (∀ σ' H', Same c.B.1 H' → c.W (.ref (c.xc n)) none σ' H') → E n) → OPost P E o
  | .ok a, h, h1, _ => h1 a h
  | .ex n, h, _, h2 => h2 n h
  | .bad, h, _, _ => h
def sameB (xs ys : List Nat) : Bool := xs.all ys.contains && ys.all xs.contains
theorem sameB_iff {xs ys : List Nat} (h : sameB xs ys = true) : ∀ i, i ∈ xs ↔ i ∈ ys := fun i => by
  unfold sameB at h
  rw [Bool.and_eq_true, List.all_eq_true, List.all_eq_true] at h
  exact ⟨fun z => List.contains_iff_mem.mp (h.1 i z), fun z => List.contains_iff_mem.mp (h.2 i z)⟩
def subB (xs ys : List Nat) : Bool := xs.all ys.contains
theorem subB_of {xs ys : List Nat} (h : subB xs ys = true) : ∀ i, i ∈ xs → i ∈ ys := fun i z => by
  unfold subB at h
  rw [List.all_eq_true] at h
  exact List.contains_iff_mem.mp (h i z)
/-! ### blocks -/
def gNext : Rho → R := .nx
def gSeq (g h : Rho → R) : Rho → R := fun ρ => (g ρ).seq h
theorem fs_next : FS K c ol own own tNext gNext := fun D σ H F ρ S q => q σ H F (Same.refl _) S
theorem fs_seq {t u : TS} {g h : Rho → R} (h1 : FS K c ol own own1 t g) (h2 : FS K c ol own1 own2 u h) : FS K c ol own own2 (tSeq t u) (gSeq g h) := fun D σ H F ρ S q => by
  refine h1 { D with nx := u D } σ H F ρ S ?_
  unfold gSeq at q
  cases e : g ρ with
  | nx ρ' =>
    rw [e] at q
    exact fun σ' H' F' s S' => h2 D σ' H' F' ρ' S' (SPost.mono q s)
  | rt d => rw [e] at q; exact q
  | bk ρ' => rw [e] at q; exact q
  | ct ρ' => rw [e] at q; exact q
  | ex n => rw [e] at q; exact q
  | bad => rw [e] at q; exact q
/-- some slots own no more -/
theorem fs_freeze {t : TS} {g : Rho → R} (own1 : List Nat) (h : FS K c ol own1 own' t g) (hs : subB own1 own = true) : FS K c ol own own' t g := fun D σ H F ρ S q => by
  obtain ⟨F', s, S'⟩ := S.shrink (subB_of hs)
  exact h D σ H F' ρ S' (SPost.mono q s)
theorem fs_weak {t : TS} {g : Rho → R} (own1 : List Nat) (h : FS K c ol own own1 t g) (hs : subB own' own1 = true) : FS K c ol own own' t g := fun D σ H F ρ S q => by
  refine h D σ H F ρ S ?_
  cases e : g ρ with
  | nx ρ' =>
    rw [e] at q
    exact fun σ' H' F' s S' => by
      obtain ⟨F2, s2, S2⟩ := S'.shrink (subB_of hs)
      exact q σ' H' F2 (s.trans s2) S2
  | rt d => rw [e] at q; exact q
  | bk ρ' => rw [e] at q; exact q
  | ct ρ' => rw [e] at q; exact q
  | ex n => rw [e] at q; exact q
  | bad => rw [e] at q; exact q
/-! ### if -/
def gIfS (g : Rho → O Bool) (u w : Rho → R) : Rho → R := fun ρ => (g ρ).go fun k => if k = true then u ρ else w ρ
theorem fs_if {t : TT} {u w : TS} {g : Rho → O Bool} {gu gw : Rho → R} (h : FT K c own t g) (hu : FS K c ol own own' u gu) (hw : FS K c ol own own' w gw) : FS K c ol own own' (tIfS t u w) (gIfS g gu gw) := fun D σ H F ρ S q => by
  refine h σ H F ρ _ S (SPost.go q (fun k q H1 F1 e => ?_) fun n q H1 s => q σ H1 (S.b.h.trans s))
  cases k with
  | true =>
    rw [if_pos rfl] at q ⊢
    exact hu D σ H1 F1 ρ (S.ext e) (SPost.mono q e.f)
  | false =>
    rw [if_neg Bool.false_ne_true] at q ⊢
    exact hw D σ H1 F1 ρ (S.ext e) (SPost.mono q e.f)
/-! ### names -/
def gSet (i : Nat) (g : Rho → O PyData) : Rho → R := fun ρ => (g ρ).go fun d => .nx (ρ.set i (some d))
theorem notIn_of {i : Nat} (h : own.contains i = false) : own.filter (fun j => j != i) = own := List.filter_eq_self.mpr fun j hj => by
  have : j ≠ i := fun z => by
    subst z
    rw [List.contains_iff_mem.mpr hj] at h
    cases h
  simpa using this
theorem fs_set {t : TE} {g : Rho → O PyData} {i : Nat} (h : FE K c own true t g) (hi : own.contains i = false) : FS K c ol own own (tAsg t (gName i)) (gSet i g) := fun D σ H F ρ S q => by
  refine h σ H F ρ _ S (SPost.go q (fun d q v H1 F1 e r => ?_) fun n q H1 s => q σ H1 (S.b.h.trans s))
  have S2 := (S.ext e).set i (show Rep K c.cls F1 v d from r)
  rw [notIn_of hi] at S2
  exact q _ _ _ e.f S2
/-- a slot that owned a list gets another value -/
theorem fs_setF {t : TE} {g : Rho → O PyData} {i : Nat} (h : FE K c own true t g) (hs : sameB (own.filter fun j => j != i) own' = true) : FS K c ol own own' (tAsg t (gName i)) (gSet i g) := fun D σ H F ρ S q => by
  refine h σ H F ρ _ S (SPost.go q (fun d q v H1 F1 e r => ?_) fun n q H1 s => q σ H1 (S.b.h.trans s))
  exact q _ _ _ e.f (((S.ext e).set i (show Rep K c.cls F1 v d from r)).perm (sameB_iff hs))
theorem fs_setO {t : TE} {g : Rho → O PyData} {i : Nat} (h : FO K c own t g) (hl : ∀ ρ d, g ρ = .ok d → ∃ ds, d = .list ds) (hs : sameB (i :: own.filter fun j => j != i) own' = true) : FS K c ol own own' (tAsg t (gName i)) (gSet i g) := fun D σ H F ρ S q => by
  refine h σ H F ρ _ S ?_
  unfold gSet at q
  cases hg : g ρ with
  | ok d =>
    rw [hg] at q
    obtain ⟨ds, rfl⟩ := hl ρ d hg
    refine ⟨ds, rfl, fun a xs H1 F1 e h1 h2 h3 r => ?_⟩
    refine q _ _ _ e.f (((S.ext e).setO i h1 r h2 (S.b.h.free h3) fun j x d hj hn hr hx => ?_).perm (sameB_iff hs))
    obtain ⟨a', xs', ds', _, k2, k3, _⟩ := S.ow j d hj hr
    rw [k2] at hx
    cases hx
    intro z
    rw [z, h3] at k3
    cases k3
  | ex n => rw [hg] at q; exact fun H1 s => q σ H1 (S.b.h.trans s)
  | bad => rw [hg] at q; exact q.elim
/-! ### targets -/
def FG (K : PySem.W.Frag) (c : Ct) (own : List Nat) (g : TG) (f : PyData → Rho → O Rho) : Prop := ∀ v d σ H F ρ Q, Sim K c.cls c.B own σ H F ρ → Rep K c.cls F v d → OPost (fun ρ' => ∀ σ', Sim K c.cls c.B own σ' H F ρ' → Q σ' H) (fun _ => False) (f d ρ) → g v σ H Q
def FGs (K : PySem.W.Frag) (c : Ct) (own : List Nat) (g : TGs) (f : List PyData → Rho → O Rho) : Prop := ∀ vs ds σ H F ρ Q, Sim K c.cls c.B own σ H F ρ → RepL K c.cls F vs ds → OPost (fun ρ' => ∀ σ', Sim K c.cls c.B own σ' H F ρ' → Q σ' H) (fun _ => False) (f ds ρ) → g vs σ H Q
def aName (i : Nat) : PyData → Rho → O Rho := fun d ρ => .ok (ρ.set i (some d))
def aTup (f : List PyData → Rho → O Rho) : PyData → Rho → O Rho
  | .tuple ds, ρ => f ds ρ
  | _, _ => .bad
def aNil : List PyData → Rho → O Rho
  | [], ρ => .ok ρ
  | _, _ => .bad
def aCons (f : PyData → Rho → O Rho) (fs : List PyData → Rho → O Rho) : List PyData → Rho → O Rho
  | d :: ds, ρ => (f d ρ).bind fun ρ' => fs ds ρ'
  | [], _ => .bad
theorem fg_name {i : Nat} (hi : own.contains i = false) : FG K c own (gName i) (aName i) := fun v d σ H F ρ Q S r q => by
  have S2 := S.set i r
  rw [notIn_of hi] at S2
  exact q _ S2
theorem fgs_nil : FGs K c own gNil aNil := fun vs ds σ H F ρ Q S r q => by
  unfold aNil at q
  split at q
  · cases r
    exact ⟨rfl, q _ S⟩
  · exact q.elim
theorem fgs_cons {g : TG} {gs : TGs} {f : PyData → Rho → O Rho} {fs : List PyData → Rho → O Rho} (h : FG K c own g f) (hs : FGs K c own gs fs) : FGs K c own (gCons g gs) (aCons f fs) := fun vs ds σ H F ρ Q S r q => by
  unfold aCons at q
  split at q
  · rename_i d ds
    cases r with
    | cons r t =>
      refine ⟨_, _, rfl, h _ _ σ H F ρ _ S r (OPost.imp (fun ρ' q σ' S' => ?_) (fun _ q => q) (OPost.bind q))⟩
      exact hs _ _ σ' H F ρ' Q S' t q
  · exact q.elim
theorem fg_tup {n : Nat} {gs : TGs} {fs : List PyData → Rho → O Rho} (h : FGs K c own gs fs) (hn : ∀ ds ρ, ds.length ≠ n → fs ds ρ = .bad) : FG K c own (L2.gTup K n gs) (aTup fs) := fun v d σ H F ρ Q S r q => by
  unfold aTup at q
  split at q
  · rename_i ds
    cases r with
    | tp h1 r =>
      refine ⟨_, _, rfl, Same.tup S.s h1, ?_, h _ _ σ H F ρ Q S r q⟩
      rw [r.length]
      by_cases e : ds.length = n
      · exact e
      · rw [hn ds ρ e] at q
        exact q.elim
  · exact q.elim
theorem aNil_len : ∀ ds ρ, ds.length ≠ 0 → aNil ds ρ = .bad := fun ds ρ h => by
  cases ds with
  | nil => exact absurd rfl h
  | cons d ds => rfl
theorem aCons_len {n : Nat} {f : PyData → Rho → O Rho} {fs : List PyData → Rho → O Rho} (h : ∀ ds ρ, ds.length ≠ n → fs ds ρ = .bad) (hx : ∀ d ρ k, f d ρ ≠ .ex k) : ∀ ds ρ, ds.length ≠ n + 1 → aCons f fs ds ρ = .bad := fun ds ρ hn => by
  cases ds with
  | nil => rfl
  | cons d ds =>
    have h' := fun ρ' => h ds ρ' (fun z => hn (by rw [List.length_cons, z]))
    show (f d ρ).bind _ = _
    cases e : f d ρ with
    | ok ρ' => exact h' ρ'
    | ex k => exact absurd e (hx d ρ k)
    | bad => rfl
theorem aName_ex {i : Nat} : ∀ d ρ k, aName i d ρ ≠ .ex k := fun d ρ k h => by cases h
theorem aNil_ex : ∀ ds ρ k, aNil ds ρ ≠ .ex k := fun ds ρ k h => by cases ds <;> cases h
theorem aCons_ex {f : PyData → Rho → O Rho} {fs : List PyData → Rho → O Rho} (h : ∀ d ρ k, f d ρ ≠ .ex k) (hs : ∀ ds ρ k, fs ds ρ ≠ .ex k) : ∀ ds ρ k, aCons f fs ds ρ ≠ .ex k := fun ds ρ k e => by
  cases ds with
  | nil => cases e
  | cons d ds =>
    have e : (f d ρ).bind _ = .ex k := e
    cases e2 : f d ρ with
    | ok ρ' => rw [e2] at e; exact hs ds ρ' k e
    | ex n => exact h d ρ n e2
    | bad => rw [e2] at e; cases e
theorem aTup_ex {fs : List PyData → Rho → O Rho} (hs : ∀ ds ρ k, fs ds ρ ≠ .ex k) : ∀ d ρ k, aTup fs d ρ ≠ .ex k := fun d ρ k e => by
  unfold aTup at e
  split at e
  · exact hs _ _ _ e
  · cases e
def gAsg (f : PyData → Rho → O Rho) (g : Rho → O PyData) : Rho → R := fun ρ => (g ρ).go fun d => (f d ρ).go .nx
theorem fs_asg {t : TE} {g : Rho → O PyData} {tg : TG} {f : PyData → Rho → O Rho} (h : FE K c own true t g) (hg : FG K c own tg f) (hx : ∀ d ρ k, f d ρ ≠ .ex k) : FS K c ol own own (tAsg t tg) (gAsg f g) := fun D σ H F ρ S q => by
  refine h σ H F ρ _ S (SPost.go q (fun d q v H1 F1 e r => ?_) fun n q H1 s => q σ H1 (S.b.h.trans s))
  refine hg v d σ H1 F1 ρ _ (S.ext e) r ?_
  cases ho : f d ρ with
  | ok ρ' =>
    rw [ho] at q
    exact fun σ' S' => q σ' H1 F1 e.f S'
  | ex k => exact absurd ho (hx d ρ k)
  | bad => rw [ho] at q; exact q.elim
/-! ### expressions as statements, return -/
def gDrop (g : Rho → O PyData) : Rho → R := fun ρ => (g ρ).go fun _ => .nx ρ
theorem fs_drop {t : TE} {g : Rho → O PyData} (h : FE K c own false t g) : FS K c ol own own (tDrop t) (gDrop g) := fun D σ H F ρ S q => by
  refine h σ H F ρ _ S (SPost.go q (fun d q v H1 F1 e r => ?_) fun n q H1 s => q σ H1 (S.b.h.trans s))
  exact q σ H1 F1 e.f (S.ext e)
def gRet (g : Rho → O PyData) : Rho → R := fun ρ => (g ρ).go .rt
theorem fs_ret {t : TE} {g : Rho → O PyData} (h : FE K c [] true t g) (hf : c.fr = false := by rfl) : FS K c ol own own' (tRet t) (gRet g) := fun D σ H F ρ S q => by
  obtain ⟨F', s, S'⟩ := S.shrink (own' := []) (fun i z => absurd z List.not_mem_nil)
  refine h σ H F' ρ _ S' (SPost.go (SPost.mono q s) (fun d q v H1 F1 e r => ?_) fun n q H1 s => q σ H1 (S.b.h.trans s))
  have q : RetP K c c.B.2 c.B.1 c.fr D.rt d := q
  rw [hf] at q
  exact q v H1 F1 ((S'.ext e).b) r
def gRetN : Rho → R := fun _ => .rt .none
theorem fs_retN (hf : c.fr = false := by rfl) : FS K c ol own own' tRetN gRetN := fun D σ H F ρ S q => by
  have q : RetP K c c.B.2 c.B.1 c.fr D.rt .none := q
  rw [hf] at q
  exact q .non H F S.b .non
/-- a new list is told -/
theorem fs_retO {t : TE} {g : Rho → O PyData} (h : FO K c own t g) (hl : ∀ ρ d, g ρ = .ok d → ∃ ds, d = .list ds) (hf : c.fr = true := by rfl) : FS K c ol own own' (tRet t) (gRet g) := fun D σ H F ρ S q => by
  refine h σ H F ρ _ S ?_
  unfold gRet at q
  cases hg : g ρ with
  | ok d =>
    rw [hg] at q
    obtain ⟨ds, rfl⟩ := hl ρ d hg
    have q : RetP K c c.B.2 c.B.1 c.fr D.rt (.list ds) := q
    rw [hf] at q
    obtain ⟨es, e0, q2⟩ := q
    cases e0
    exact ⟨ds, rfl, fun a xs H1 F1 e h1 h2 h3 r => q2 a xs H1 F1 (S.ext e).b h1 h2 (S.b.h.free h3) r⟩
  | ex n => rw [hg] at q; exact fun H1 s => q σ H1 (S.b.h.trans s)
  | bad => rw [hg] at q; exact q.elim
/-- a list of its own is told -/
theorem fs_retV {i : Nat} (hi : own.contains i = true) (hf : c.fr = true := by rfl) : FS K c ol own own' (tRet (tVar i)) (gRet (gVar i)) := fun D σ H F ρ S q => by
  unfold gRet at q
  cases hg : gVar i ρ with
  | ok d =>
    rw [hg] at q
    have q : RetP K c c.B.2 c.B.1 c.fr D.rt d := q
    rw [hf] at q
    obtain ⟨ds, rfl, q2⟩ := q
    have hv : ρ[i]? = some (some (.list ds)) := by
      unfold gVar at hg
      split at hg
      · rename_i e; cases hg; exact e
      · cases hg
    obtain ⟨a, xs, ds', e0, k1, k2, k3, k4, k5⟩ := S.ow i _ (List.contains_iff_mem.mp hi) hv
    cases e0
    exact ⟨_, k1, q2 a xs H F S.b k2 k4 k5 k3⟩
  | ex n =>
    unfold gVar at hg
    split at hg <;> cases hg
  | bad => rw [hg] at q; exact q.elim
def gBreak : Rho → R := .bk
def gCont : Rho → R := .ct
theorem fs_break (hs : subB ol own = true) : FS K c ol own own' tBreak gBreak := fun D σ H F ρ S q => by
  obtain ⟨F', s, S'⟩ := S.shrink (subB_of hs)
  exact q σ H F' s S'
theorem fs_cont (hs : subB ol own = true) : FS K c ol own own' tCont gCont := fun D σ H F ρ S q => by
  obtain ⟨F', s, S'⟩ := S.shrink (subB_of hs)
  exact q σ H F' s S'
def gRaise (n : Nat) : Rho → R := fun _ => .ex n
theorem fs_raise {n : Nat} {C : Addr} {W : WX} (hW : c.W = W) (hn : c.xc n = C) : FS K c ol own own' (fun _ σ H => W (.ref C) none σ H) (gRaise n) := fun D σ H F ρ S q => by
  subst hW hn
  exact q σ H S.b.h
/-! ### lists that change -/
def lsAt (i : Nat) (ρ : Rho) : O (List PyData) := match ρ[i]? with
  | some (some (.list ds)) => .ok ds
  | _ => .bad
theorem lsAt_ok {i : Nat} {ds : List PyData} (h : lsAt i ρ = .ok ds) : ρ[i]? = some (some (.list ds)) := by
  unfold lsAt at h
  split at h
  · rename_i e; cases h; exact e
  · cases h
theorem lsAt_ex {i n : Nat} (h : lsAt i ρ = .ex n) : False := by
  unfold lsAt at h
  split at h <;> cases h
def gAppend (i : Nat) (g : Rho → O PyData) : Rho → R := fun ρ => (lsAt i ρ).go fun _ => (g ρ).go fun d => (lsAt i ρ).go fun ds => if ds.length < lim then .nx (ρ.set i (some (.list (ds ++ [d])))) else .bad
theorem SPost.ls {i : Nat} {f : List PyData → R} (h : SPost K c ol own' F D ((lsAt i ρ).go f)) : ∃ ds, ρ[i]? = some (some (.list ds)) ∧ SPost K c ol own' F D (f ds) := by
  cases e : lsAt i ρ with
  | ok ds => rw [e] at h; exact ⟨ds, lsAt_ok e, h⟩
  | ex n => exact (lsAt_ex e).elim
  | bad => rw [e] at h; exact h.elim
theorem fs_append {i : Nat} {t : TE} {g : Rho → O PyData} (h : FE K c own true t g) (hi : own.contains i = true) : FS K c ol own own (tDrop (tBM K "list" rAppend (tVar i) (tCons t tNil))) (gAppend i g) := fun D σ H F ρ S q => by
  have hi' := List.contains_iff_mem.mp hi
  obtain ⟨ds0, e0, q⟩ := SPost.ls q
  obtain ⟨a0, xs0, k1, k2, k3, k4⟩ := S.mut hi' e0
  refine ⟨_, k1, .inl ⟨rfl, xs0, SqL.of k2⟩, ?_⟩
  refine h σ H F ρ _ S (SPost.go q (fun d q v H1 F1 e r => ?_) fun n q H1 s => q σ H1 (S.b.h.trans s))
  obtain ⟨ds, e1, q⟩ := SPost.ls q
  rw [e0] at e1
  cases e1
  obtain ⟨a, xs, m1, m2, m3, m4⟩ := (S.ext e).mut hi' e0
  rw [k1] at m1
  cases m1
  split at q
  · rename_i hl
    refine ⟨a0, xs, v, rfl, rfl, m2, by rw [m3.length]; exact lt_lim hl, ?_⟩
    exact q σ _ F1 e.f (m4 _ _ (m3.append (.cons r .nil)))
  · exact q.elim
def gExtend (i : Nat) (g : Rho → O PyData) : Rho → R := fun ρ => (lsAt i ρ).go fun _ => (g ρ).go fun d => match d with
  | .list es => (lsAt i ρ).go fun ds => if ds.length + es.length ≤ lim then .nx (ρ.set i (some (.list (ds ++ es)))) else .bad
  | _ => .bad
theorem fs_extend {i : Nat} {t : TE} {g : Rho → O PyData} (h : FE K c own false t g) (hi : own.contains i = true) : FS K c ol own own (tDrop (tBM K "list" rExtend (tVar i) (tCons t tNil))) (gExtend i g) := fun D σ H F ρ S q => by
  have hi' := List.contains_iff_mem.mp hi
  obtain ⟨ds0, e0, q⟩ := SPost.ls q
  obtain ⟨a0, xs0, k1, k2, k3, k4⟩ := S.mut hi' e0
  refine ⟨_, k1, .inl ⟨rfl, xs0, SqL.of k2⟩, ?_⟩
  refine h σ H F ρ _ S (SPost.go q (fun d q v H1 F1 e r => ?_) fun n q H1 s => q σ H1 (S.b.h.trans s))
  split at q
  · rename_i es
    have r : Rep1 K c F1 H1 v (.list es) := r
    obtain ⟨ds, e1, q⟩ := SPost.ls q
    rw [e0] at e1
    cases e1
    obtain ⟨a, xs, m1, m2, m3, m4⟩ := (S.ext e).mut hi' e0
    rw [k1] at m1
    cases m1
    split at q
    · rename_i hl
      obtain ⟨a2, ys, rfl, n2, n3⟩ := r.lst e.s
      refine ⟨a0, a2, xs, ys, rfl, rfl, m2, n2, by rw [m3.length, n3.length]; exact le_lim hl, ?_⟩
      exact q σ _ F1 e.f (m4 _ _ (m3.append n3))
    · exact q.elim
  · exact q.elim
def gClear (i : Nat) : Rho → R := fun ρ => (lsAt i ρ).go fun _ => .nx (ρ.set i (some (.list [])))
theorem fs_clear {i : Nat} (hi : own.contains i = true) : FS K c ol own own (tDrop (tBM0 K "list" rClear (tVar i))) (gClear i) := fun D σ H F ρ S q => by
  obtain ⟨ds0, e0, q⟩ := SPost.ls q
  obtain ⟨a0, xs0, k1, k2, k3, k4⟩ := S.mut (List.contains_iff_mem.mp hi) e0
  exact ⟨_, k1, .inl ⟨rfl, xs0, SqL.of k2⟩, a0, xs0, rfl, rfl, k2, q σ _ F (Same.refl _) (k4 _ _ .nil)⟩
/-- x = xs.pop() -/
def gPopSet (j i : Nat) : Rho → R := fun ρ => (lsAt i ρ).go fun ds => match ds[ds.length - 1]? with
  | some d => .nx ((ρ.set i (some (.list ds.dropLast))).set j (some d))
  | none => .bad
theorem RepL.dropLast {xs : List V} {ds : List PyData} (h : RepL K c.cls F xs ds) : RepL K c.cls F xs.dropLast ds.dropLast := by
  rw [List.dropLast_eq_take, List.dropLast_eq_take, h.length]
  exact RepL.take _ h
theorem fs_popSet {i j : Nat} (hi : own.contains i = true) (hj : own.contains j = false) : FS K c ol own own (tAsg (tBM0 K "list" rPop (tVar i)) (gName j)) (gPopSet j i) := fun D σ H F ρ S q => by
  obtain ⟨ds0, e0, q⟩ := SPost.ls q
  obtain ⟨a0, xs0, k1, k2, k3, k4⟩ := S.mut (List.contains_iff_mem.mp hi) e0
  split at q
  · rename_i d hd
    obtain ⟨v, h1, h2⟩ := k3.get hd
    refine ⟨_, k1, .inl ⟨rfl, xs0, SqL.of k2⟩, a0, xs0, v, rfl, rfl, k2, by rw [k3.length]; exact h1, ?_⟩
    have S2 := (k4 _ _ k3.dropLast).set j h2
    rw [notIn_of hj] at S2
    exact q _ _ _ (Same.refl _) S2
  · exact q.elim
/-- xs[k] = e -/
def gSetIx (i : Nat) (gi g : Rho → O PyData) : Rho → R := fun ρ => (g ρ).go fun d => (lsAt i ρ).go fun _ => (gi ρ).go fun k => match k with
  | .int k => (lsAt i ρ).go fun ds => match ixN ds.length k with
    | some j => .nx (ρ.set i (some (.list (ds.set j d))))
    | none => .bad
  | _ => .bad
theorem fs_setIx {i : Nat} {t ti : TE} {g gi : Rho → O PyData} (h : FE K c own true t g) (hk : FE K c own false ti gi) (hi : own.contains i = true) : FS K c ol own own (tAsg t (gSub (tVar i) ti rSetL)) (gSetIx i gi g) := fun D σ H F ρ S q => by
  have hi' := List.contains_iff_mem.mp hi
  refine h σ H F ρ _ S (SPost.go q (fun d q v H1 F1 e r => ?_) fun n q H1 s => q σ H1 (S.b.h.trans s))
  have S1 := S.ext e
  obtain ⟨ds0, e0, q⟩ := SPost.ls q
  obtain ⟨a0, xs0, k1, k2, k3, k4⟩ := S1.mut hi' e0
  refine ⟨_, k1, ?_⟩
  refine hk σ H1 F1 ρ _ S1 (SPost.go q (fun k q w H2 F2 e2 r2 => ?_) fun n q H1 s => q σ H1 (S1.b.h.trans s))
  split at q
  · rename_i k
    have r2 : Rep1 K c F2 H2 w (.int k) := r2
    obtain ⟨ds, e1, q⟩ := SPost.ls q
    rw [e0] at e1
    cases e1
    obtain ⟨a, xs, m1, m2, m3, m4⟩ := (S1.ext e2).mut hi' e0
    rw [k1] at m1
    cases m1
    split at q
    · rename_i j hj
      refine ⟨a0, xs, k, j, rfl, r2.int, m2, by rw [m3.length]; exact hj, ?_⟩
      have r : Rep K c.cls F1 v d := r
      exact q σ _ F2 (e.f.trans e2.f) (m4 _ _ (m3.set j (r.mono e2.f)))
    · exact q.elim
  · exact q.elim
/-- x += e of whole numbers -/
def gAugI (f : Int → Int → Int) (i : Nat) (g : Rho → O PyData) : Rho → R := fun ρ => match ρ[i]? with
  | some (some (.int k)) => (g ρ).go fun d => match d with
    | .int m => .nx (ρ.set i (some (.int (f k m))))
    | _ => .bad
  | _ => .bad
theorem fs_augI {f : Int → Int → Int} {i : Nat} {t : TE} {g : Rho → O PyData} (h : FE K c own false t g) (hi : own.contains i = false) : FS K c ol own own (tAug i t (ipI f)) (gAugI f i g) := fun D σ H F ρ S q => by
  unfold gAugI at q
  split at q
  · rename_i k e0
    obtain ⟨v, h1, h2⟩ := S.fro i _ (fun z => by rw [List.contains_iff_mem.mpr z] at hi; cases hi) e0
    cases h2
    refine ⟨_, h1, ?_⟩
    refine h σ H F ρ _ S (SPost.go q (fun d q w H1 F1 e r => ?_) fun n q H1 s => q σ H1 (S.b.h.trans s))
    split at q
    · rename_i m
      have r : Rep1 K c F1 H1 w (.int m) := r
      refine ⟨k, m, rfl, r.int, ?_⟩
      have S2 := (S.ext e).set i (show Rep K c.cls F1 (V.int (f k m)) (.int (f k m)) from .int _)
      rw [notIn_of hi] at S2
      exact q _ _ _ e.f S2
    · exact q.elim
  · exact q.elim
/-! ### what is walked -/
def ItOk (K : PySem.W.Frag) (c : Ct) (J : It) (F0 : Hp) (ds : List PyData) : Prop := ∀ F H, Same F0 F → Same F H → ∀ i,
  (i < ds.length → J.go i H) ∧ (i = ds.length → J.stop i H) ∧ ∀ x H' d, ds[i]? = some d → J.yld i H x H' → ∃ F', Ext F H F' H' ∧ Rep K c.cls F' x d
def FI (K : PySem.W.Frag) (c : Ct) (own : List Nat) (t : TI) (g : Rho → O (List PyData)) : Prop := ∀ σ H F ρ R, Sim K c.cls c.B own σ H F ρ →
  OPost (fun ds => ∀ J H' F', Ext F H F' H' → ItOk K c J F' ds → R J H') (fun n => ∀ H', Same H H' → c.W (.ref (c.xc n)) none σ H') (g ρ) → t σ H R
def itemsL : PyData → O (List PyData)
  | .list ds => .ok ds
  | _ => .bad
def itemsT : PyData → O (List PyData)
  | .tuple ds => .ok ds
  | _ => .bad
def gItL (g : Rho → O PyData) : Rho → O (List PyData) := fun ρ => (g ρ).bind itemsL
def gItT (g : Rho → O PyData) : Rho → O (List PyData) := fun ρ => (g ρ).bind itemsT
theorem fi_list {t : TE} {g : Rho → O PyData} (h : FE K c own true t g) : FI K c own (iList K t) (gItL g) := fun σ H F ρ R S q => by
  refine h σ H F ρ _ S (OPost.imp (fun d q v H1 F1 e r => ?_) (fun _ q => q) (OPost.bind q))
  unfold itemsL at q
  split at q
  · rename_i ds
    cases (show Rep K c.cls F1 v (.list ds) from r) with
    | @ls a xs _ h1 r1 =>
      refine ⟨a, rfl, ⟨xs, e.s.seq (SqL.of h1)⟩, q _ _ _ e fun F2 H2 s1 s2 i => ?_⟩
      have sq : SqL K H2 a xs := s2.seq (s1.seq (SqL.of h1))
      refine ⟨fun hi => ?_, fun hi => ⟨xs, sq, by rw [r1.length, hi]; exact Nat.le_refl _⟩, fun x H' d hd y => ?_⟩
      · have hi' : i < xs.length := by rw [r1.length]; exact hi
        exact ⟨xs, xs[i], sq, List.getElem?_eq_getElem hi'⟩
      · obtain ⟨rfl, y⟩ := y
        obtain ⟨v, h2, h3⟩ := r1.get hd
        have hx := y xs sq
        rw [h2] at hx
        cases hx
        exact ⟨F2, Ext.refl s2, h3.mono s1⟩
  · exact q.elim
theorem fi_tup {t : TE} {g : Rho → O PyData} (h : FE K c own false t g) : FI K c own (iTup K t) (gItT g) := fun σ H F ρ R S q => by
  refine h σ H F ρ _ S (OPost.imp (fun d q v H1 F1 e r => ?_) (fun _ q => q) (OPost.bind q))
  unfold itemsT at q
  split at q
  · rename_i ds
    have r : Rep1 K c F1 H1 v (.tuple ds) := r
    obtain ⟨_, _, _, _, _, rr⟩ := r.tup e.s
    cases rr with
    | @tp a xs _ h1 r1 =>
      refine ⟨a, rfl, ⟨xs, Same.tup e.s h1⟩, q _ _ _ e fun F2 H2 s1 s2 i => ?_⟩
      have sq : SqT K H2 a xs := Same.tup s2 (Same.tup s1 h1)
      refine ⟨fun hi => ?_, fun hi => ⟨xs, sq, by rw [r1.length, hi]; exact Nat.le_refl _⟩, fun x H' d hd y => ?_⟩
      · have hi' : i < xs.length := by rw [r1.length]; exact hi
        exact ⟨xs, xs[i], sq, List.getElem?_eq_getElem hi'⟩
      · obtain ⟨rfl, y⟩ := y
        obtain ⟨v, h2, h3⟩ := r1.get hd
        have hx := y xs sq
        rw [h2] at hx
        cases hx
        exact ⟨F2, Ext.refl s2, h3.mono s1⟩
  · exact q.elim
def rangeD (lo : Int) (n : Nat) : List PyData := (List.range n).map fun (i : Nat) => PyData.int (lo + i)
theorem rangeD_length (lo : Int) (n : Nat) : (rangeD lo n).length = n := by unfold rangeD; simp
theorem rangeD_get {lo : Int} {n i : Nat} {d : PyData} (h : (rangeD lo n)[i]? = some d) : d = .int (lo + i) := by
  unfold rangeD at h
  rw [List.getElem?_map] at h
  cases e : (List.range n)[i]? with
  | none => rw [e] at h; cases h
  | some j =>
    rw [e] at h
    have hj := List.getElem?_eq_some_iff.mp e
    obtain ⟨h1, h2⟩ := hj
    rw [List.getElem_range] at h2
    subst h2
    have := Option.some.inj h
    exact this.symm
def rng1 : List PyData → O (List PyData)
  | [.int j] => if -(lim : Int) ≤ j ∧ j ≤ lim then .ok (rangeD 0 j.toNat) else .bad
  | _ => .bad
def rng2 : List PyData → O (List PyData)
  | [.int i, .int j] => if -(lim : Int) ≤ i ∧ i ≤ lim ∧ -(lim : Int) ≤ j ∧ j ≤ lim then .ok (rangeD i (j - i).toNat) else .bad
  | _ => .bad
def gRng1 (g : Rho → O (List PyData)) : Rho → O (List PyData) := fun ρ => (g ρ).bind rng1
def gRng2 (g : Rho → O (List PyData)) : Rho → O (List PyData) := fun ρ => (g ρ).bind rng2
theorem it_range (lo : Int) (n : Nat) (F0 : Hp) : ItOk K c (Itr lo n) F0 (rangeD lo n) := fun F2 H2 s1 s2 i => by
  refine ⟨fun hi => by rw [rangeD_length] at hi; exact hi, fun hi => by rw [rangeD_length] at hi; exact Nat.le_of_eq hi.symm, fun x H' d hd y => ?_⟩
  obtain ⟨rfl, rfl⟩ := y
  rw [rangeD_get hd]
  exact ⟨F2, Ext.refl s2, .int _⟩
theorem fi_range1 {t : TA} {g : Rho → O (List PyData)} (h : FA K c own false t g) : FI K c own (iRng1 t) (gRng1 g) := fun σ H F ρ R S q => by
  refine h σ H F ρ _ S (OPost.imp (fun d q v H1 F1 e r => ?_) (fun _ q => q) (OPost.bind q))
  unfold rng1 at q
  split at q
  · rename_i j
    obtain ⟨x, rfl, rr⟩ := paired1 (show Paired (Rep1 K c F1 H1) v [PyData.int j] from r)
    have rr : Rep1 K c F1 H1 x (.int j) := rr
    split at q
    · rename_i hj
      unfold lim at hj
      exact ⟨j, by rw [rr.int], by omega, by omega, q _ _ _ e (it_range 0 j.toNat F1)⟩
    · exact q.elim
  · exact q.elim
theorem fi_range2 {t : TA} {g : Rho → O (List PyData)} (h : FA K c own false t g) : FI K c own (iRng2 t) (gRng2 g) := fun σ H F ρ R S q => by
  refine h σ H F ρ _ S (OPost.imp (fun d q v H1 F1 e r => ?_) (fun _ q => q) (OPost.bind q))
  unfold rng2 at q
  split at q
  · rename_i i j
    obtain ⟨x, y, rfl, rx, ry⟩ := paired2 (show Paired (Rep1 K c F1 H1) v [PyData.int i, PyData.int j] from r)
    have rx : Rep1 K c F1 H1 x (.int i) := rx
    have ry : Rep1 K c F1 H1 y (.int j) := ry
    split at q
    · rename_i hj
      unfold lim at hj
      exact ⟨i, j, by rw [rx.int, ry.int], by omega, q _ _ _ e (it_range i (j - i).toNat F1)⟩
    · exact q.elim
  · exact q.elim
def enumD (ds : List PyData) : List PyData := ds.mapIdx fun i d => .tuple [.int (i : Nat), d]
def zipD (ds es : List PyData) : List PyData := List.zipWith (fun d e => PyData.tuple [d, e]) ds es
def enumI : List PyData → O (List PyData)
  | [.list ds] => .ok (enumD ds)
  | _ => .bad
def zipI : List PyData → O (List PyData)
  | [.list ds, .list es] => .ok (zipD ds es)
  | _ => .bad
def gEnum (g : Rho → O (List PyData)) : Rho → O (List PyData) := fun ρ => (g ρ).bind enumI
def gZip (g : Rho → O (List PyData)) : Rho → O (List PyData) := fun ρ => (g ρ).bind zipI
theorem fi_enum {t : TA} {g : Rho → O (List PyData)} (h : FA K c own true t g) : FI K c own (iEnum K t) (gEnum g) := fun σ H F ρ R S q => by
  refine h σ H F ρ _ S (OPost.imp (fun d q v H1 F1 e r => ?_) (fun _ q => q) (OPost.bind q))
  unfold enumI at q
  split at q
  · rename_i ds
    have r : RepL K c.cls F1 v [.list ds] := r
    cases r with
    | cons ra t0 =>
      cases t0
      cases ra with
      | @ls a xs _ h1 r1 =>
        refine ⟨a, xs, rfl, e.s.seq (SqL.of h1), q _ _ _ e fun F2 H2 s1 s2 i => ?_⟩
        have sq : SqL K H2 a xs := s2.seq (s1.seq (SqL.of h1))
        have le : (enumD ds).length = xs.length := by unfold enumD; rw [List.length_mapIdx, r1.length]
        refine ⟨fun hi => ?_, fun hi => ⟨xs, sq, by rw [← le, hi]; exact Nat.le_refl _⟩, fun x H' d hd y => ?_⟩
        · have hi' : i < xs.length := by rw [← le]; exact hi
          exact ⟨xs, xs[i], sq, List.getElem?_eq_getElem hi'⟩
        · obtain ⟨T, u, rfl, hT, rfl, y⟩ := y
          unfold enumD at hd
          rw [List.getElem?_mapIdx] at hd
          cases hq : ds[i]? with
          | none => rw [hq] at hd; cases hd
          | some d0 =>
            rw [hq] at hd
            cases hd
            obtain ⟨w, h2, h3⟩ := r1.get hq
            have hx := y xs sq
            rw [h2] at hx
            cases hx
            exact ⟨_, Ext.new s2 hT, .tp (SqT.of upd_same) (.cons (.int _) (.cons ((h3.mono s1).mono (same_upd (s2.free hT))) .nil))⟩
  · exact q.elim
theorem fi_zip {t : TA} {g : Rho → O (List PyData)} (h : FA K c own true t g) : FI K c own (iZip K t) (gZip g) := fun σ H F ρ R S q => by
  refine h σ H F ρ _ S (OPost.imp (fun d q v H1 F1 e r => ?_) (fun _ q => q) (OPost.bind q))
  unfold zipI at q
  split at q
  · rename_i ds es
    have r : RepL K c.cls F1 v [.list ds, .list es] := r
    cases r with
    | cons ra t0 =>
      cases t0 with
      | cons rb t1 =>
        cases t1
        cases ra with
        | @ls a xs _ h1 r1 =>
          cases rb with
          | @ls a' ys _ h1' r1' =>
            refine ⟨a, a', xs, ys, rfl, e.s.seq (SqL.of h1), e.s.seq (SqL.of h1'), q _ _ _ e fun F2 H2 s1 s2 i => ?_⟩
            have sq : SqL K H2 a xs := s2.seq (s1.seq (SqL.of h1))
            have sq' : SqL K H2 a' ys := s2.seq (s1.seq (SqL.of h1'))
            have le : (zipD ds es).length = min xs.length ys.length := by unfold zipD; rw [List.length_zipWith, r1.length, r1'.length]
            refine ⟨fun hi => ?_, fun hi => ⟨xs, ys, sq, sq', ?_⟩, fun x H' d hd y => ?_⟩
            · rw [le] at hi
              have hx : i < xs.length := Nat.lt_of_lt_of_le hi (Nat.min_le_left _ _)
              have hy : i < ys.length := Nat.lt_of_lt_of_le hi (Nat.min_le_right _ _)
              exact ⟨xs, ys, xs[i], ys[i], sq, sq', List.getElem?_eq_getElem hx, List.getElem?_eq_getElem hy⟩
            · rw [le] at hi
              by_cases z : xs.length ≤ ys.length
              · rw [Nat.min_eq_left z] at hi; exact .inl (Nat.le_of_eq hi.symm)
              · rw [Nat.min_eq_right (by omega)] at hi; exact .inr (Nat.le_of_eq hi.symm)
            · obtain ⟨T, u, u', rfl, hT, rfl, y1, y2⟩ := y
              unfold zipD at hd
              rw [List.getElem?_zipWith] at hd
              cases hq : ds[i]? with
              | none => rw [hq] at hd; cases hd
              | some d0 =>
                cases hq' : es[i]? with
                | none => rw [hq, hq'] at hd; cases hd
                | some e0 =>
                  rw [hq, hq'] at hd
                  cases hd
                  obtain ⟨w, h2, h3⟩ := r1.get hq
                  obtain ⟨w', h2', h3'⟩ := r1'.get hq'
                  have hx := y1 xs sq
                  rw [h2] at hx
                  cases hx
                  have hx' := y2 ys sq'
                  rw [h2'] at hx'
                  cases hx'
                  exact ⟨_, Ext.new s2 hT, .tp (SqT.of upd_same) (.cons ((h3.mono s1).mono (same_upd (s2.free hT))) (.cons ((h3'.mono s1).mono (same_upd (s2.free hT))) .nil))⟩
  · exact q.elim
def strItems (z : Str) : List PyData := z.cps.toList.map fun x => .str ⟨#[x]⟩
def itemsS : PyData → O (List PyData)
  | .str z => .ok (strItems z)
  | _ => .bad
def gItS (g : Rho → O PyData) : Rho → O (List PyData) := fun ρ => (g ρ).bind itemsS
theorem fi_str {t : TE} {g : Rho → O PyData} (h : FE K c own false t g) : FI K c own (iStr t) (gItS g) := fun σ H F ρ R S q => by
  refine h σ H F ρ _ S (OPost.imp (fun d q v H1 F1 e r => ?_) (fun _ q => q) (OPost.bind q))
  unfold itemsS at q
  split at q
  · rename_i z
    have r : Rep1 K c F1 H1 v (.str z) := r
    refine ⟨z, r.str, q _ _ _ e fun F2 H2 s1 s2 i => ?_⟩
    have le : (strItems z).length = z.cps.size := by unfold strItems; simp
    refine ⟨fun hi => by rw [le] at hi; exact hi, fun hi => by rw [le] at hi; exact Nat.le_of_eq hi.symm, fun x H' d hd y => ?_⟩
    obtain ⟨rfl, k, hk, rfl⟩ := y
    unfold strItems at hd
    rw [List.getElem?_map, Array.getElem?_toList, hk] at hd
    cases hd
    exact ⟨F2, Ext.refl s2, .str _⟩
  · exact q.elim
/-- a list, a tuple, a text -/
def iAny (K : PySem.W.Frag) (t : TE) : TI := fun σ H R => iList K t σ H R ∨ iTup K t σ H R ∨ iStr t σ H R
theorem PI.or {X : Cx} {tg e : Expr} {w1 w2 : TI} (h1 : PI X tg e w1) (h2 : PI X tg e w2) : PI X tg e (fun σ H R => w1 σ H R ∨ w2 σ H R) := ⟨fun pins s σ H R I h => h.elim (h1.run pins s σ H R I) (h2.run pins s σ H R I)⟩
theorem pi_any {X : Cx} {tg e : Expr} {t : TE} (h : PE X e t) : PI X tg e (iAny X.K t) := PI.or (pi_list h) (PI.or (pi_tup h) (pi_str h))
def itemsA : PyData → O (List PyData)
  | .list ds => .ok ds
  | .tuple ds => .ok ds
  | .str z => .ok (strItems z)
  | _ => .bad
def gItA (g : Rho → O PyData) : Rho → O (List PyData) := fun ρ => (g ρ).bind itemsA
theorem fi_any {t : TE} {g : Rho → O PyData} (h : FE K c own true t g) : FI K c own (iAny K t) (gItA g) := fun σ H F ρ R S q => by
  unfold gItA at q
  cases hg : g ρ with
  | ok d =>
    rw [hg, O.bind_ok] at q
    cases d with
    | list ds =>
      refine .inl (fi_list h σ H F ρ R S ?_)
      unfold gItL
      rw [hg]
      exact q
    | tuple ds =>
      refine .inr (.inl (fi_tup h.weak σ H F ρ R S ?_))
      unfold gItT
      rw [hg]
      exact q
    | str z =>
      refine .inr (.inr (fi_str h.weak σ H F ρ R S ?_))
      unfold gItS
      rw [hg]
      exact q
    | none => exact q.elim
    | bool _ => exact q.elim
    | int _ => exact q.elim
    | dict _ => exact q.elim
  | ex n =>
    refine .inl (fi_list h σ H F ρ R S ?_)
    unfold gItL
    rw [hg] at q ⊢
    exact q
  | bad => rw [hg] at q; exact q.elim
/-! ### for -/
def forL (f : PyData → Rho → O Rho) (body : Rho → R) : List PyData → Rho → R
  | [], ρ => .nx ρ
  | d :: ds, ρ => (f d ρ).go fun ρ1 => match body ρ1 with
    | .nx ρ2 => forL f body ds ρ2
    | .ct ρ2 => forL f body ds ρ2
    | .bk ρ2 => .nx ρ2
    | .rt e => .rt e
    | .ex n => .ex n
    | .bad => .bad
def gFor (f : PyData → Rho → O Rho) (gi : Rho → O (List PyData)) (body : Rho → R) : Rho → R := fun ρ => (gi ρ).go fun ds => forL f body ds ρ
theorem fs_for {wi : TI} {tg : TG} {tb : TS} {gi : Rho → O (List PyData)} {f : PyData → Rho → O Rho} {body : Rho → R} (hi : FI K c own wi gi) (hg : FG K c own tg f) (hx : ∀ d ρ k, f d ρ ≠ .ex k) (hb : FS K c own own own tb body) :
    FS K c ol own own (tFor wi tg tb) (gFor f gi body) := fun D σ H F ρ S q => by
  refine hi σ H F ρ _ S (SPost.go q (fun ds q J H1 F1 e it => ?_) fun n q H1 s => q σ H1 (S.b.h.trans s))
  refine ⟨fun i m σ2 H2 => m = ds.length - i ∧ i ≤ ds.length ∧ ∃ F2 ρ2, Same F1 F2 ∧ Sim K c.cls c.B own σ2 H2 F2 ρ2 ∧ SPost K c ol own F2 D (forL f body (ds.drop i) ρ2),
    ⟨ds.length, by omega, Nat.zero_le _, F1, ρ, Same.refl _, S.ext e, SPost.mono q e.f⟩, ?_⟩
  rintro i m σ2 H2 ⟨rfl, hle, F2, ρ2, s12, S2, q2⟩
  obtain ⟨i1, i2, i3⟩ := it F2 H2 s12 S2.s i
  by_cases hlt : i < ds.length
  · refine .inr ⟨i1 hlt, fun σ3 H3 => ∃ F3 ρ3, Same F1 F3 ∧ Sim K c.cls c.B own σ3 H3 F3 ρ3 ∧ SPost K c ol own F3 D (forL f body (ds.drop (i + 1)) ρ3), fun σ3 H3 z => ⟨ds.length - (i + 1), by omega, rfl, hlt, z⟩, fun x H3 y => ?_⟩
    obtain ⟨F3, e3, r3⟩ := i3 x H3 ds[i] (List.getElem?_eq_getElem hlt) y
    rw [List.drop_eq_getElem_cons hlt] at q2
    unfold forL at q2
    refine hg x ds[i] σ2 H3 F3 ρ2 _ (S2.ext e3) r3 ?_
    cases ho : f ds[i] ρ2 with
    | ok ρ3 =>
      rw [ho, O.go_ok] at q2
      intro σ4 S4
      refine hb _ σ4 H3 F3 ρ3 S4 ?_
      cases hbo : body ρ3 with
      | nx ρ5 =>
        rw [hbo] at q2
        exact fun σ5 H5 F5 s5 S5 => ⟨F5, ρ5, s12.trans (e3.f.trans s5), S5, SPost.mono q2 (e3.f.trans s5)⟩
      | ct ρ5 =>
        rw [hbo] at q2
        exact fun σ5 H5 F5 s5 S5 => ⟨F5, ρ5, s12.trans (e3.f.trans s5), S5, SPost.mono q2 (e3.f.trans s5)⟩
      | bk ρ5 =>
        rw [hbo] at q2
        exact fun σ5 H5 F5 s5 S5 => q2 σ5 H5 F5 (e3.f.trans s5) S5
      | rt d => rw [hbo] at q2; exact q2
      | ex n => rw [hbo] at q2; exact q2
      | bad => rw [hbo] at q2; exact q2
    | ex k => exact absurd ho (hx _ _ k)
    | bad => rw [ho] at q2; exact q2.elim
  · have : i = ds.length := by omega
    subst this
    refine .inl ⟨i2 rfl, ?_⟩
    rw [List.drop_length] at q2
    exact q2 σ2 H2 F2 (Same.refl _) S2
/-! ### while -/
def whileN (t : Rho → O Bool) (body : Rho → R) : Nat → Rho → R
  | 0, _ => .bad
  | n + 1, ρ => (t ρ).go fun k => if k = true then (match body ρ with
    | .nx ρ2 => whileN t body n ρ2
    | .ct ρ2 => whileN t body n ρ2
    | .bk ρ2 => .nx ρ2
    | .rt e => .rt e
    | .ex n => .ex n
    | .bad => .bad) else .nx ρ
def gWhile (n : Nat) (t : Rho → O Bool) (body : Rho → R) : Rho → R := fun ρ => whileN t body n ρ
theorem fs_while {n : Nat} {tt : TT} {tb : TS} {t : Rho → O Bool} {body : Rho → R} (ht : FT K c own tt t) (hb : FS K c own own own tb body) : FS K c ol own own (tWhile tt tb) (gWhile n t body) := fun D σ H F ρ S q => by
  refine ⟨fun m σ2 H2 => ∃ F2 ρ2, Sim K c.cls c.B own σ2 H2 F2 ρ2 ∧ SPost K c ol own F2 D (whileN t body m ρ2), ⟨n, F, ρ, S, q⟩, ?_⟩
  rintro m σ2 H2 ⟨F2, ρ2, S2, q2⟩
  cases m with
  | zero => exact q2.elim
  | succ m =>
    unfold whileN at q2
    refine ht σ2 H2 F2 ρ2 _ S2 (SPost.go q2 (fun k q2 H3 F3 e => ?_) fun n q H1 s => q σ2 H1 (S2.b.h.trans s))
    cases k with
    | true =>
      rw [if_pos rfl] at q2 ⊢
      refine ⟨fun σ4 H4 => ∃ F4 ρ4, Sim K c.cls c.B own σ4 H4 F4 ρ4 ∧ SPost K c ol own F4 D (whileN t body m ρ4), fun σ4 H4 z => ⟨m, Nat.lt_succ_self _, z⟩, ?_⟩
      refine hb _ σ2 H3 F3 ρ2 (S2.ext e) ?_
      cases hbo : body ρ2 with
      | nx ρ5 =>
        rw [hbo] at q2
        exact fun σ5 H5 F5 s5 S5 => ⟨F5, ρ5, S5, SPost.mono q2 (e.f.trans s5)⟩
      | ct ρ5 =>
        rw [hbo] at q2
        exact fun σ5 H5 F5 s5 S5 => ⟨F5, ρ5, S5, SPost.mono q2 (e.f.trans s5)⟩
      | bk ρ5 =>
        rw [hbo] at q2
        exact fun σ5 H5 F5 s5 S5 => q2 σ5 H5 F5 (e.f.trans s5) S5
      | rt d => rw [hbo] at q2; exact q2
      | ex n => rw [hbo] at q2; exact q2
      | bad => rw [hbo] at q2; exact q2
    | false =>
      rw [if_neg Bool.false_ne_true] at q2 ⊢
      exact q2 σ2 H3 F3 e.f (S2.ext e)
end
end Fn

set_option Elab.async false
set_option linter.all false
set_option maxRecDepth 100000
/-! Comprehensions, calls of own defs, bodies of defs. -/
namespace Fn
open PySem PySem.Spec L2

section
variable {K : PySem.W.Frag} {c : Ct} {ol own own' : List Nat} {b : Bool} {F H F' H' : Hp} {σ : L2.St} {ρ : Rho}
/-! ### comprehensions -/
def wipeR (ρ : Rho) : List Nat → Rho
  | [] => ρ
  | v :: vs => (wipeR ρ vs).set v none
theorem Sim.wipe (S : Sim K c.cls c.B own σ H F ρ) : ∀ vs : List Nat, Sim K c.cls c.B own (L2.wipe σ vs) H F (wipeR ρ vs)
  | [] => S
  | v :: vs => (Sim.wipe S vs).forget v none
theorem wipe_set {u : Option V} : ∀ {vs : List Nat} {i : Nat} (σ : L2.St), i ∈ vs → L2.wipe (σ.set i u) vs = L2.wipe σ vs
  | [], _, _, h => absurd h List.not_mem_nil
  | v :: vs, i, σ, h => by
    unfold L2.wipe
    by_cases e : i = v
    · subst e
      by_cases m : i ∈ vs
      · rw [wipe_set σ m]
      · have q : ∀ (ws : List Nat) (τ : L2.St), i ∉ ws → L2.wipe (τ.set i u) ws = (L2.wipe τ ws).set i u := fun ws => by
          induction ws with
          | nil => intro τ _; rfl
          | cons x xs ih =>
            intro τ hx
            unfold L2.wipe
            rw [ih τ (fun z => hx (List.mem_cons_of_mem _ z))]
            exact List.set_comm _ _ (fun z => hx (by rw [z]; exact List.mem_cons_self))
        rw [q vs σ m, List.set_set]
    · rcases List.mem_cons.mp h with z | z
      · exact absurd z e
      · rw [wipe_set σ z]
theorem wipe_wipe (σ : L2.St) (vs : List Nat) : L2.wipe (L2.wipe σ vs) vs = L2.wipe σ vs := by
  have key : ∀ (ws : List Nat) (τ : L2.St), (∀ w ∈ ws, w ∈ vs) → L2.wipe (L2.wipe τ ws) vs = L2.wipe τ vs := fun ws => by
    induction ws with
    | nil => intro τ _; rfl
    | cons x xs ih =>
      intro τ hx
      have e : L2.wipe τ (x :: xs) = (L2.wipe τ xs).set x none := rfl
      rw [e, wipe_set _ (hx x List.mem_cons_self), ih τ fun w hw => hx w (List.mem_cons_of_mem _ hw)]
  exact key vs σ fun w hw => hw
def FC (K : PySem.W.Frag) (c : Ct) (own vs : List Nat) (g : TG) (f : PyData → Rho → O Rho) : Prop := ∀ v d σ H F ρ Q, Sim K c.cls c.B own σ H F ρ → Rep K c.cls F v d → OPost (fun ρ' => ∀ σ', L2.wipe σ' vs = L2.wipe σ vs → Sim K c.cls c.B own σ' H F ρ' → Q σ' H) (fun _ => False) (f d ρ) → g v σ H Q
def FCs (K : PySem.W.Frag) (c : Ct) (own vs : List Nat) (g : TGs) (f : List PyData → Rho → O Rho) : Prop := ∀ us ds σ H F ρ Q, Sim K c.cls c.B own σ H F ρ → RepL K c.cls F us ds → OPost (fun ρ' => ∀ σ', L2.wipe σ' vs = L2.wipe σ vs → Sim K c.cls c.B own σ' H F ρ' → Q σ' H) (fun _ => False) (f ds ρ) → g us σ H Q
theorem fc_name {i : Nat} {vs : List Nat} (hi : own.contains i = false) (hv : vs.contains i = true) : FC K c own vs (gName i) (aName i) := fun v d σ H F ρ Q S r q => by
  have S2 := S.set i r
  rw [notIn_of hi] at S2
  exact q _ (wipe_set σ (List.contains_iff_mem.mp hv)) S2
theorem fcs_nil {vs : List Nat} : FCs K c own vs gNil aNil := fun us ds σ H F ρ Q S r q => by
  unfold aNil at q
  split at q
  · cases r
    exact ⟨rfl, q _ rfl S⟩
  · exact q.elim
theorem fcs_cons {vs : List Nat} {g : TG} {gs : TGs} {f : PyData → Rho → O Rho} {fs : List PyData → Rho → O Rho} (h : FC K c own vs g f) (hs : FCs K c own vs gs fs) : FCs K c own vs (gCons g gs) (aCons f fs) := fun us ds σ H F ρ Q S r q => by
  unfold aCons at q
  split at q
  · rename_i d ds
    cases r with
    | cons r t =>
      refine ⟨_, _, rfl, h _ _ σ H F ρ _ S r (OPost.imp (fun ρ' q σ' w S' => ?_) (fun _ q => q) (OPost.bind q))⟩
      exact hs _ _ σ' H F ρ' Q S' t (OPost.imp (fun ρ' q σ2 w2 S2 => q σ2 (w2.trans w) S2) (fun _ q => q) q)
  · exact q.elim
theorem fc_tup {vs : List Nat} {n : Nat} {gs : TGs} {fs : List PyData → Rho → O Rho} (h : FCs K c own vs gs fs) (hn : ∀ ds ρ, ds.length ≠ n → fs ds ρ = .bad) : FC K c own vs (L2.gTup K n gs) (aTup fs) := fun v d σ H F ρ Q S r q => by
  unfold aTup at q
  split at q
  · rename_i ds
    cases r with
    | tp h1 r =>
      refine ⟨_, _, rfl, Same.tup S.s h1, ?_, h _ _ σ H F ρ Q S r q⟩
      rw [r.length]
      by_cases e : ds.length = n
      · exact e
      · rw [hn ds ρ e] at q
        exact q.elim
  · exact q.elim
abbrev Ct.noW (c : Ct) : Ct := { c with W := fun _ _ _ _ => False }
def compL (f : PyData → Rho → O Rho) (t : Rho → O Bool) (e : Rho → O PyData) (ρ : Rho) : List PyData → O (List PyData)
  | [] => .ok []
  | d :: ds => (f d ρ).bind fun ρ1 => (noEx (t ρ1)).bind fun k => if k = true then (noEx (e ρ1)).bind fun y => (compL f t e ρ ds).bind fun ys => .ok (y :: ys) else compL f t e ρ ds
def gYes : Rho → O Bool := fun _ => .ok true
theorem ft_yes : FT K c own tYes gYes := fun σ H F ρ Q S q => q H F (Ext.refl S.s)
def gComp (vs : List Nat) (f : PyData → Rho → O Rho) (t : Rho → O Bool) (e : Rho → O PyData) (gi : Rho → O (List PyData)) : Rho → O PyData := fun ρ => (gi ρ).bind fun ds => if ds.length ≤ lim then (compL f t e (wipeR ρ vs) ds).bind fun ys => .ok (.list ys) else .bad
theorem Ext.updNew {p : Addr} {o : HO} (e : Ext F H F' H') (h : H p = none) (h' : F' p = none) : Ext F H F' (upd H' p o) :=
  ⟨e.f, fun b u q => by rw [upd_ne (ne_of_none q h)]; exact e.h b u q, fun b u q => by rw [upd_ne (ne_of_none q h')]; exact e.s b u q, e.n⟩
theorem O.bind_okI {α β : Type} {o : O α} {f : α → O β} {z : β} (h : o.bind f = .ok z) : ∃ a, o = .ok a ∧ f a = .ok z := by
  cases o with
  | ok a => exact ⟨a, rfl, h⟩
  | ex n => cases h
  | bad => cases h
theorem noEx_okI {α : Type} {o : O α} {z : α} (h : noEx o = .ok z) : o = .ok z := by
  cases o with
  | ok a => exact h
  | ex n => cases h
  | bad => cases h
theorem compL_ex {f : PyData → Rho → O Rho} {t : Rho → O Bool} {e : Rho → O PyData} (hx : ∀ d ρ k, f d ρ ≠ .ex k) : ∀ ds n, compL f t e ρ ds ≠ .ex n
  | [], n, h => by cases h
  | d :: ds, n, h => by
    unfold compL at h
    cases e1 : f d ρ with
    | ex k => exact hx d ρ k e1
    | bad => rw [e1] at h; cases h
    | ok ρ1 =>
      rw [e1, O.bind_ok] at h
      cases e2 : t ρ1 with
      | ex k => rw [e2] at h; cases h
      | bad => rw [e2] at h; cases h
      | ok k =>
        rw [e2] at h
        have h : (if k = true then (noEx (e ρ1)).bind fun y => (compL f t e ρ ds).bind fun ys => O.ok (y :: ys) else compL f t e ρ ds) = O.ex n := h
        cases k with
        | false =>
          rw [if_neg Bool.false_ne_true] at h
          exact compL_ex hx ds n h
        | true =>
          rw [if_pos rfl] at h
          cases e3 : e ρ1 with
          | ex k => rw [e3] at h; cases h
          | bad => rw [e3] at h; cases h
          | ok y =>
            rw [e3] at h
            have h : (compL f t e ρ ds).bind (fun ys => O.ok (y :: ys)) = O.ex n := h
            cases e4 : compL f t e ρ ds with
            | ex k => exact compL_ex hx ds k e4
            | bad => rw [e4] at h; cases h
            | ok ys => rw [e4] at h; cases h
theorem fo_comp {vs : List Nat} {wi : TI} {g : TG} {tt : TT} {te : TE} {gi : Rho → O (List PyData)} {f : PyData → Rho → O Rho} {t : Rho → O Bool} {e : Rho → O PyData} (hi : FI K c own wi gi) (hg : FC K c.noW own vs g f)
    (hx : ∀ d ρ k, f d ρ ≠ .ex k) (ht : FT K c.noW own tt t) (he : FE K c.noW own true te e) : FO K c own (tLc wi g tt te vs) (gComp vs f t e gi) := fun σ H F ρ Q S q => by
  refine hi σ H F ρ _ S (OPost.imp (fun ds q J H1 F1 e1 it => ?_) (fun _ q => q) (OPost.bind q))
  split at q
  · rename_i hlim
    intro A hA
    have S1 := S.ext e1
    cases hz : compL f t e (wipeR ρ vs) ds with
    | ex n => exact absurd hz (compL_ex hx ds n)
    | bad => rw [hz] at q; exact q.elim
    | ok zs =>
      rw [hz, O.bind_ok] at q
      obtain ⟨_, ez, q⟩ := q
      cases ez
      refine ⟨fun i m H2 => m = ds.length - i ∧ i ≤ ds.length ∧ ∃ F2 acc as ys, Ext F1 H1 F2 H2 ∧ H2 A = some (.lst acc) ∧ F2 A = none ∧ RepL K c.cls F2 acc as ∧ as.length ≤ i ∧ compL f t e (wipeR ρ vs) (ds.drop i) = .ok ys ∧ zs = as ++ ys,
        ⟨ds.length, by omega, Nat.zero_le _, F1, [], [], zs, Ext.newO e1.s hA, upd_same, e1.s.free hA, .nil, Nat.zero_le _, hz, rfl⟩, ?_⟩
      rintro i m H2 ⟨rfl, hle, F2, acc, as, ys, e2, hD, hF, hr, hl, hc, rfl⟩
      obtain ⟨i1, i2, i3⟩ := it F2 H2 e2.f e2.s i
      by_cases hlt : i < ds.length
      · refine .inr ⟨i1 hlt, fun H3 => ∃ F3 acc as' ys', Ext F1 H1 F3 H3 ∧ H3 A = some (.lst acc) ∧ F3 A = none ∧ RepL K c.cls F3 acc as' ∧ as'.length ≤ i + 1 ∧ compL f t e (wipeR ρ vs) (ds.drop (i + 1)) = .ok ys' ∧ as ++ ys = as' ++ ys',
          fun H3 z => ⟨ds.length - (i + 1), by omega, rfl, hlt, z⟩, fun x H3 y => ?_⟩
        obtain ⟨F3, e3, r3⟩ := i3 x H3 ds[i] (List.getElem?_eq_getElem hlt) y
        rw [List.drop_eq_getElem_cons hlt] at hc
        unfold compL at hc
        obtain ⟨ρ1, ho, hc⟩ := O.bind_okI hc
        obtain ⟨k, hk, hc⟩ := O.bind_okI hc
        have e13 := e2.trans e3
        refine hg x ds[i] (L2.wipe σ vs) H3 F3 (wipeR ρ vs) _ ((S1.ext e13).wipe vs) r3 ?_
        rw [ho]
        intro σ4 w4 S4
        refine ⟨w4.trans (wipe_wipe σ vs), ht σ4 H3 F3 ρ1 _ S4 ?_⟩
        rw [noEx_okI hk]
        intro H4 F4 e4
        have e14 := e13.trans e4
        have nF : ∀ {F5 H5}, Ext F2 H2 F5 H5 → F5 A = none := fun {F5 H5} ee => by
          cases qq : F5 A with
          | none => rfl
          | some o =>
            rcases ee.n A o qq with z | z
            · rw [hF] at z; cases z
            · rw [hD] at z; cases z
        cases k with
        | true =>
          rw [if_pos rfl] at hc ⊢
          obtain ⟨y, hy, hc⟩ := O.bind_okI hc
          obtain ⟨ys', hys, hc⟩ := O.bind_okI hc
          cases hc
          refine he σ4 H4 F4 ρ1 _ (S4.ext e4) ?_
          rw [noEx_okI hy]
          intro u H5 F5 e5 r5
          have e25 := (e3.trans e4).trans e5
          refine ⟨acc, e25.h _ _ hD, by rw [hr.length]; exact lt_lim (by omega), F5, _, as ++ [y], ys', (e2.trans e25).updNew hA (nF e25), upd_same, nF e25, (hr.mono e25.f).append (.cons r5 .nil), by rw [List.length_append, List.length_singleton]; omega, hys, by rw [List.append_assoc]; rfl⟩
        | false =>
          rw [if_neg Bool.false_ne_true] at hc ⊢
          have e24 := e3.trans e4
          exact ⟨F4, acc, as, ys, e2.trans e24, e24.h _ _ hD, nF e24, hr.mono e24.f, by omega, hc, rfl⟩
      · have : i = ds.length := by omega
        subst this
        rw [List.drop_length] at hc
        have hc : O.ok [] = O.ok ys := hc
        cases hc
        refine .inl ⟨i2 rfl, q A acc H2 F2 (e1.trans e2) hD hF (e1.h.free hA) ?_⟩
        rw [List.append_nil]
        exact hr
  · exact q.elim
theorem gComp_list {vs : List Nat} {f : PyData → Rho → O Rho} {t : Rho → O Bool} {e : Rho → O PyData} {gi : Rho → O (List PyData)} : ∀ ρ d, gComp vs f t e gi ρ = .ok d → ∃ ds, d = .list ds := fun ρ d h => by
  unfold gComp at h
  obtain ⟨ds, _, h⟩ := O.bind_okI h
  split at h
  · obtain ⟨ys, _, h⟩ := O.bind_okI h
    cases h
    exact ⟨ys, rfl⟩
  · cases h
theorem fe_comp {vs : List Nat} {wi : TI} {g : TG} {tt : TT} {te : TE} {gi : Rho → O (List PyData)} {f : PyData → Rho → O Rho} {t : Rho → O Bool} {e : Rho → O PyData} (hi : FI K c own wi gi) (hg : FC K c.noW own vs g f)
    (hx : ∀ d ρ k, f d ρ ≠ .ex k) (ht : FT K c.noW own tt t) (he : FE K c.noW own true te e) : FE K c own b (tLc wi g tt te vs) (gComp vs f t e gi) := (fo_comp hi hg hx ht he).fe gComp_list
theorem g2L_list {op : PyData → PyData → O (List PyData)} {ga gb : Rho → O PyData} : ∀ ρ d, g2L op ga gb ρ = .ok d → ∃ ds, d = .list ds := fun ρ d h => by
  unfold g2L at h
  obtain ⟨x, _, h⟩ := O.bind_okI h
  obtain ⟨y, _, h⟩ := O.bind_okI h
  obtain ⟨z, _, h⟩ := O.bind_okI h
  cases h
  exact ⟨z, rfl⟩
theorem gSlL_list {g : Rho → O PyData} {gl gh : Rho → O (Option Int)} : ∀ ρ d, gSlL g gl gh ρ = .ok d → ∃ ds, d = .list ds := fun ρ d h => by
  unfold gSlL at h
  obtain ⟨x, _, h⟩ := O.bind_okI h
  obtain ⟨y, _, h⟩ := O.bind_okI h
  obtain ⟨z, _, h⟩ := O.bind_okI h
  unfold dSlL at h
  split at h
  · cases h; exact ⟨_, rfl⟩
  · cases h
/-! ### own defs -/
def spF (K : PySem.W.Frag) (cls xc : Nat → Addr) (n : Nat) (f : List PyData → O PyData) : Sp := fun vs H Q E => ∃ F ds, Same F H ∧ RepL K cls F vs ds ∧ ds.length = n ∧
  OPost (fun d => ∀ v H' F', Ext F H F' H' → Rep K cls F' v d → Q v H') (fun k => ∀ H', Same H H' → E (.ref (xc k)) none H') (f ds)
def gFn (n : Nat) (f : List PyData → O PyData) (g : Rho → O (List PyData)) : Rho → O PyData := fun ρ => (g ρ).bind fun ds => if ds.length = n then f ds else .bad
theorem fe_call {n : Nat} {f : List PyData → O PyData} {t : TA} {g : Rho → O (List PyData)} {W : WX} (hW : c.W = W) (h : FA K c own true t g) : FE K c own b (tCallS (spF K c.cls c.xc n f) (WE W) t) (gFn n f g) := FE.any fun σ H F ρ Q S q => by
  subst hW
  refine h σ H F ρ _ S (OPost.imp (fun ds q vs H1 F1 e1 r1 => ?_) (fun _ q => q) (OPost.bind q))
  split at q
  · rename_i hn
    exact ⟨F1, ds, e1.s, r1, hn, OPost.imp (fun d q v H2 F2 e2 r2 => q v H2 F2 (e1.trans e2) r2) (fun k q H2 s => q H2 (e1.h.trans s)) q⟩
  · exact q.elim
def flatO : PyData → O PyData := fun d => if flatD d = true then .ok d else .bad
def gFnB (n : Nat) (f : List PyData → O PyData) (g : Rho → O (List PyData)) : Rho → O PyData := fun ρ => (g ρ).bind fun ds => if ds.length = n then (f ds).bind flatO else .bad
theorem Rep.flat {v : V} {d : PyData} {G : Hp} (r : Rep K c.cls F v d) (h : flatD d = true) : Rep K c.cls G v d := by
  cases r with
  | non => exact .non
  | bl k => exact .bl k
  | int i => exact .int i
  | str x => exact .str x
  | ls _ _ => cases h
  | ro _ _ => cases h
  | tp _ _ => cases h
  | ob _ _ => cases h
theorem paired_full (s : Same F H) : ∀ {vs : List V} {ds : List PyData}, Paired (Rep1 K c F H) vs ds → RepL K c.cls H vs ds
  | _, _, .nil => .nil
  | _, _, .cons r t => .cons (Rep1.full r s) (paired_full s t)
theorem fe_callS {n : Nat} {f : List PyData → O PyData} {t : TA} {g : Rho → O (List PyData)} {W : WX} (hW : c.W = W) (h : FA K c own false t g) : FE K c own b (tCallS (spF K c.cls c.xc n f) (WE W) t) (gFnB n f g) := FE.any fun σ H F ρ Q S q => by
  subst hW
  refine h σ H F ρ _ S (OPost.imp (fun ds q vs H1 F1 e1 r1 => ?_) (fun _ q => q) (OPost.bind q))
  split at q
  · rename_i hn
    refine ⟨H1, ds, Same.refl _, paired_full e1.s r1, hn, OPost.imp (fun d q v H2 F2 e2 r2 => ?_) (fun k q H2 s => q H2 (e1.h.trans s)) (OPost.bind q)⟩
    unfold flatO at q
    split at q
    · rename_i hf
      exact q v H2 F1 (e1.trans ⟨Same.refl _, e2.h, e1.s.trans e2.h, fun _ _ z => .inl z⟩) (r2.flat hf)
    · exact q.elim
  · exact q.elim
def outR : R → O PyData
  | .nx _ => .ok .none
  | .rt d => .ok d
  | .ex n => .ex n
  | .bk _ => .bad
  | .ct _ => .bad
  | .bad => .bad
def rho0 (m : Nat) (ds : List PyData) : Rho := ds.map some ++ List.replicate (m - ds.length) none
def fnG (m : Nat) (g : Rho → R) : List PyData → O PyData := fun ds => outR (g (rho0 m ds))
end
theorem sim_start {K : PySem.W.Frag} {cls : Nat → Addr} {F H : Hp} {N : List Str} {vs : List V} {ds : List PyData} (s : Same F H) (r : RepL K cls F vs ds) : Sim K cls (H, F) [] (L2.start N vs) H F (rho0 N.length ds) where
  b := Ext.refl s
  len := by
    unfold L2.start rho0
    rw [List.length_append, List.length_append, List.length_map, List.length_map, List.length_replicate, List.length_replicate, r.length]
  fro := fun i d _ h => by
    unfold rho0 at h
    by_cases hi : i < ds.length
    · rw [List.getElem?_append_left (by rw [List.length_map]; exact hi), List.getElem?_map] at h
      cases q : ds[i]? with
      | none => rw [q] at h; cases h
      | some d' =>
        rw [q] at h
        cases h
        obtain ⟨v, h1, h2⟩ := r.get q
        refine ⟨v, ?_, h2⟩
        unfold L2.start
        rw [List.getElem?_append_left (by rw [List.length_map, r.length]; exact hi), List.getElem?_map, h1]
        rfl
    · rw [List.getElem?_append_right (by rw [List.length_map]; omega)] at h
      rw [List.getElem?_replicate] at h
      split at h <;> cases h
  ow := fun i d hi => absurd hi List.not_mem_nil
  sep := fun i j d e a hi => absurd hi List.not_mem_nil
section
variable {P : Program} {w : World} {K : PySem.W.Frag} {mg : Str → Option Value} {base : Heap}
/-- a def by its body -/
theorem fn_ok {x qual : Str} {st : Stmt} {f : Addr} {fd : FuncData} {N ps : List Str} {k : Nat} {cls xc : Nat → Addr} (F : Fun K x qual st f fd) (S : FnScope N ps (defScope st)) (g : Rho → R) (own' : List Nat)
    (h : ∀ (cdv : Value) (A : Around) (outer : List Env) (s : Shared) (H : Hp) (E : XK) (F0 : Hp), Room k (A.deeper (PyProof.Rows.envOfC qual (defScope st) s.heap.objs.size f cdv)) →
      ∃ t, PSs (cxOf (L2.CX P w) P w K mg base N qual (defScope st) f cdv A outer s H E) (defBody st) t ∧ FS K ⟨cls, xc, fun cl d _ H' => E cl d H', (H, F0), false⟩ [] [] own' t g) :
    FnOk P w K mg base (L2.CX P w) (k + 1) f fd ps (spF K cls xc ps.length (fnG N.length g)) := by
  refine F.okX S (fun vs H Q E h => ?_) (fun cdv A outer s H vs Q E hr hsp => ?_)
  · obtain ⟨F0, ds, _, r, hn, _⟩ := h
    rw [r.length]; exact hn
  · obtain ⟨F0, ds, sF, r, hn, q⟩ := hsp
    obtain ⟨t, ht, hf⟩ := h cdv A outer s H E F0 hr
    refine ⟨t, ht, hf _ _ H F0 (rho0 N.length ds) (sim_start sF r) ?_⟩
    unfold fnG at q
    cases e : g (rho0 N.length ds) with
    | nx ρ' =>
      rw [e] at q
      exact fun σ' H' F' s' S' => q .non H' F' S'.b .non
    | rt d => rw [e] at q; exact q
    | ex n => rw [e] at q; exact fun σ' H' s' => q H' s'
    | bk ρ' => rw [e] at q; exact q.elim
    | ct ρ' => rw [e] at q; exact q.elim
    | bad => rw [e] at q; exact q.elim
end
end Fn

set_option Elab.async false
set_option linter.all false
set_option maxRecDepth 100000
/-! What the top has written, by names. -/
namespace Fn
open PySem PySem.Spec L2

/-- a def of the top, by its name -/
def DefAt (K : PySem.W.Frag) (mg : Str → Option Value) (x : Str) (st : Stmt) (ps : List Str) : Prop := ∃ f fd, Fun K x x st f fd ∧ mg x = some (.ref f) ∧ Binds K fd ps []
/-- .. and what it does -/
def OkAt (P : Program) (w : World) (K : PySem.W.Frag) (mg : Str → Option Value) (base : Heap) (cls xc : Nat → Addr) (x : Str) (ps : List Str) (n k : Nat) (g : List PyData → O PyData) : Prop :=
  ∃ f fd, FnOk P w K mg base (L2.CX P w) k f fd ps (spF K cls xc n g) ∧ mg x = some (.ref f) ∧ PySem.W.keepIn K (.ref f) = true ∧ Binds K fd ps []
theorem okAt_of {P : Program} {w : World} {K : PySem.W.Frag} {mg : Str → Option Value} {base : Heap} {cls xc : Nat → Addr} {x : Str} {st : Stmt} {ps N : List Str} {k : Nat} (d : DefAt K mg x st ps) (S : FnScope N ps (defScope st)) (g : Rho → R) (own' : List Nat)
    (h : ∀ (f : Addr) (cdv : Value) (A : Around) (outer : List Env) (s : Shared) (H : Hp) (E : XK) (F0 : Hp), Room k (A.deeper (PyProof.Rows.envOfC x (defScope st) s.heap.objs.size f cdv)) →
      ∃ t, PSs (cxOf (L2.CX P w) P w K mg base N x (defScope st) f cdv A outer s H E) (defBody st) t ∧ FS K ⟨cls, xc, fun cl d _ H' => E cl d H', (H, F0), false⟩ [] [] own' t g) :
    OkAt P w K mg base cls xc x ps ps.length (k + 1) (fnG N.length g) := by
  obtain ⟨f, fd, F, m, b⟩ := d
  exact ⟨f, fd, fn_ok F S g own' (h f), m, F.kp, b⟩
section
variable {X : Cx} {cls xc : Nat → Addr} {x : Str} {ps : List Str} {n k j : Nat} {g : List PyData → O PyData} {W : WX} {p pos : Pos} {e : Expr} {es : List Expr} {t : TA}
theorem pe_callO (o : OkAt X.prog X.w X.K X.mg X.base cls xc x ps n k g) (hr : Room j X.A) (hk : k ≤ j) (hg : Gl X x) (tk : Takes X W) (ha : PA X (e :: es) t) (hdb : (x == ("__debug__" : Str)) = false := by decide)
    (he : starEach (e :: es) X.env = (false, eval e X.env) :: starEach es X.env := by rfl) (hpl : (backTo pos (starEach es X.env)).any (·.1) = false := by rfl) :
    PE X (.Call (.Name x p) (e :: es) [] pos) (tCallS (spF X.K cls xc n g) (WE W) t) := by
  obtain ⟨f, fd, F, m, kp, b⟩ := o
  exact pe_callS F (hr.mono hk) hg m kp b (fun σ => passAt tk σ) ha hdb he hpl
end
/-- an error class of the text's own -/
structure ExcAt (K : PySem.W.Frag) (mg : Str → Option Value) (x : Str) (C : Addr) : Prop where
  g : mg x = some (.ref C)
  k : PySem.W.keepIn K (.ref C) = true
  x : PySem.W.excIn K C [.type "ValueError", .type "Exception", .type "BaseException", .type "object"] "ValueError.__new__" = true
  b : PySem.W.subIn K (.ref C) (.type "BaseException") = some true
  t : PySem.W.typeIn K (.ref C) = some (.type "type")
theorem ps_raiseO {X : Cx} {W : WX} {x m : Str} {C : Addr} {j : Nat} {p p2 pos pos' : Pos} (hc : X.calm = true) (tk : Takes X W) (T : ExcAt X.K X.mg x C) (hg : Gl X x) (hdb : (x == ("__debug__" : Str)) = false := by decide) :
    PS X (.Raise (some (.Call (.Name x p) [.Constant (.str m) j p2] [] pos)) none pos') (fun _ σ H => W (.ref C) none σ H) :=
  ps_raise hc tk (pmk_own PySem.F.excBase_ValueError T.x T.g T.k (raises_own T.b T.t) hg hdb)
/-- a whole number of the top -/
def IntAt (mg : Str → Option Value) (x : Str) (i : Int) : Prop := ∃ t, mg x = some (.int i t)
theorem pe_globI {X : Cx} {x : Str} {i : Int} {pos : Pos} (hg : Gl X x) (h : IntAt X.mg x i) (hd : (x == ("__debug__" : Str)) = false := by decide) : PE X (.Name x pos) (tC (.int i)) := by
  obtain ⟨t, h⟩ := h
  exact pe_glob hg h ⟨t, rfl⟩ hd
theorem fe_int {K : PySem.W.Frag} {c : Ct} {own : List Nat} {b : Bool} (i : Int) : FE K c own b (tC (.int i)) (gC (.int i)) := fe_c fun _ => .int i
theorem fe_str {K : PySem.W.Frag} {c : Ct} {own : List Nat} {b : Bool} (i : Str) : FE K c own b (tC (.str i)) (gC (.str i)) := fe_c fun _ => .str i
theorem fe_bool {K : PySem.W.Frag} {c : Ct} {own : List Nat} {b : Bool} (i : Bool) : FE K c own b (tC (.bl i)) (gC (.bool i)) := fe_c fun _ => .bl i
theorem fe_none {K : PySem.W.Frag} {c : Ct} {own : List Nat} {b : Bool} : FE K c own b (tC .non) (gC .none) := fe_c fun _ => .non
/-! built-in names -/
theorem bt_len : bootBuiltins "len" = some (.builtin "len") := by decide +kernel
theorem bt_all : bootBuiltins "all" = some (.builtin "all") := by decide +kernel
theorem bt_any : bootBuiltins "any" = some (.builtin "any") := by decide +kernel
theorem bt_sum : bootBuiltins "sum" = some (.builtin "sum") := by decide +kernel
theorem bt_max : bootBuiltins "max" = some (.builtin "max") := by decide +kernel
theorem bt_min : bootBuiltins "min" = some (.builtin "min") := by decide +kernel
theorem bt_abs : bootBuiltins "abs" = some (.builtin "abs") := by decide +kernel
theorem bt_isinstance : bootBuiltins "isinstance" = some (.builtin "isinstance") := by decide +kernel
theorem bt_int : bootBuiltins "int" = some (.type "int") := by decide +kernel
theorem bt_str : bootBuiltins "str" = some (.type "str") := by decide +kernel
theorem bt_tuple : bootBuiltins "tuple" = some (.type "tuple") := by decide +kernel
theorem bt_list : bootBuiltins "list" = some (.type "list") := by decide +kernel
theorem bt_bool : bootBuiltins "bool" = some (.type "bool") := by decide +kernel
/-! operators in short -/
abbrev gAdd := g2 fun d e => noEx (dAdd d e)
abbrev gSub' := g2 fun d e => noEx (dSub d e)
abbrev gMul := g2 fun d e => noEx (dMul d e)
abbrev gFdiv := g2 fun d e => noEx (dFdiv d e)
abbrev gMod := g2 fun d e => noEx (dMod d e)
abbrev gPow := g2 fun d e => noEx (dPow d e)
abbrev gLt := g2 fun d e => noEx (dLt d e)
abbrev gLe := g2 fun d e => noEx (dLe d e)
abbrev gGt := g2 fun d e => noEx (dGt d e)
abbrev gGe := g2 fun d e => noEx (dGe d e)
abbrev gEq := g2 fun d e => noEx (dEq d e)
abbrev gNe := g2 fun d e => noEx (dNe d e)
abbrev gIn := g2 fun d e => noEx (dIn false d e)
abbrev gNotIn := g2 fun d e => noEx (dIn true d e)
abbrev gIsN := g2 fun d e => noEx (dIsN d e)
abbrev gNotN := g2 fun d e => noEx (dNotN d e)
abbrev gIx := g2 fun d e => noEx (dIx d e)
abbrev gNeg := g1 fun d => noEx (dNeg d)
abbrev gB (f : List PyData → O PyData) := gCall fun ds => noEx (f ds)
end Fn

set_option Elab.async false
set_option linter.all false
set_option maxRecDepth 100000
/-! The class Problem: three lists of its own, made of what is_problem takes. -/
namespace Fn
open PySem PySem.Spec L2

def pf (p1 p2 p3 : Addr) : List (Str × V) := putF "gain" (.ref p3) (putF "rows" (.ref p2) (putF "tops" (.ref p1) []))
theorem pf_eq (p1 p2 p3 : Addr) : pf p1 p2 p3 = ([("tops", V.ref p1), ("rows", V.ref p2), ("gain", V.ref p3)] : List (Str × V)) := by
  have h1 : ¬ (("tops" : Str) = "rows") := by decide +kernel
  have h2 : ¬ (("tops" : Str) = "gain") := by decide +kernel
  have h3 : ¬ (("rows" : Str) = "gain") := by decide +kernel
  unfold pf
  have e1 : putF "tops" (.ref p1) [] = ([("tops", V.ref p1)] : List (Str × V)) := rfl
  rw [e1]
  have e2 : putF "rows" (.ref p2) [(("tops" : Str), V.ref p1)] = ([("tops", V.ref p1), ("rows", V.ref p2)] : List (Str × V)) := by
    show (if ("tops" : Str) = "rows" then [(("rows" : Str), V.ref p2)] else (("tops" : Str), V.ref p1) :: putF "rows" (.ref p2) []) = _
    rw [if_neg h1]
    rfl
  rw [e2]
  show (if ("tops" : Str) = "gain" then (("gain" : Str), V.ref p3) :: [(("rows" : Str), V.ref p2)] else (("tops" : Str), V.ref p1) :: (if ("rows" : Str) = "gain" then [(("gain" : Str), V.ref p3)] else (("rows" : Str), V.ref p2) :: putF "gain" (.ref p3) [])) = _
  rw [if_neg h2, if_neg h3]
  rfl
/-- a problem's data -/
abbrev D.prob (ts rs gs : List PyData) : PyData := D.ob 0 [(.str "tops", .list ts), (.str "rows", .list rs), (.str "gain", .list gs)]
def spI (K : PySem.W.Frag) (cls xc : Nat → Addr) (fp : List PyData → O PyData) : Sp := fun vs H Q E => ∃ x dx v1 v2 v3 d1 d2 d3, vs = [.ref x, v1, v2, v3] ∧ H x = some (.ins (cls 0) dx []) ∧ RepL K cls H [v1, v2, v3] [d1, d2, d3] ∧
  OPost (fun d => ∃ k, d = .bool k ∧ if k = true then
      ∃ a1 a2 a3 xs1 xs2 xs3, v1 = .ref a1 ∧ v2 = .ref a2 ∧ v3 = .ref a3 ∧ H a1 = some (.lst xs1) ∧ H a2 = some (.lst xs2) ∧ H a3 = some (.lst xs3) ∧
        ∀ H' p1 p2 p3, (∀ b o, b ≠ x → H b = some o → H' b = some o) → H p1 = none → H p2 = none → H p3 = none → H' p1 = some (.lst xs1) → H' p2 = some (.lst xs2) → H' p3 = some (.lst xs3) → H' x = some (.ins (cls 0) dx (pf p1 p2 p3)) → Q .non H'
    else ∀ H', Same H H' → E (.ref (xc 1)) none H') (fun _ => False) (fp [d1, d2, d3])
/-- the reading of __init__ -/
def tInit (K : PySem.W.Frag) (cls xc : Nat → Addr) (fp : List PyData → O PyData) (W : WX) : TS :=
  tSeq (tIfS (tNot fun σ H Q => tCallS (spF K cls xc 3 fp) (WE W) (tCons (tVar 1) (tCons (tVar 2) (tCons (tVar 3) tNil))) σ H fun x H' => ∃ k, TruV K x H' k ∧ Q k H') (fun _ σ H => W (.ref (xc 1)) none σ H) tNext)
    (tSeq (sFld K (tVar 0) (tCB (rListOf K) (tCons (tVar 1) tNil)) "tops")
    (tSeq (sFld K (tVar 0) (tCB (rListOf K) (tCons (tVar 2) tNil)) "rows")
      (sFld K (tVar 0) (tCB (rListOf K) (tCons (tVar 3) tNil)) "gain")))
section
variable {P : Program} {w : World} {K : PySem.W.Frag} {mg : Str → Option Value} {base : Heap} {cls xc : Nat → Addr} {fp : List PyData → O PyData}
theorem init_pure (cl : Cls K (cls 0)) (n1 : NoAttr K (cls 0) "tops") (n2 : NoAttr K (cls 0) "rows") (n3 : NoAttr K (cls 0) "gain") {vs : List V} {H : Hp} {Q : VK} {E : XK} (h : spI K cls xc fp vs H Q E) :
    tInit K cls xc fp (fun c d _ H => E c d H) { nx := fun _ H' => Q .non H', rt := Q } (L2.start ["self", "tops", "rows", "gain"] vs) H := by
  obtain ⟨x, dx, v1, v2, v3, d1, d2, d3, rfl, hx, r, q⟩ := h
  refine ⟨v1, rfl, v2, rfl, v3, rfl, H, [d1, d2, d3], Same.refl _, r, rfl, ?_⟩
  cases e : fp [d1, d2, d3] with
  | ex n => rw [e] at q; exact q.elim
  | bad => rw [e] at q; exact q.elim
  | ok d =>
    rw [e] at q
    obtain ⟨k, rfl, q⟩ := q
    intro v H1 F1 e1 r1
    cases r1
    refine ⟨k, rfl, ?_⟩
    cases k with
    | false => exact q H1 e1.h
    | true =>
      obtain ⟨a1, a2, a3, xs1, xs2, xs3, rfl, rfl, rfl, h1, h2, h3, q⟩ := q
      have s1 : Same H H1 := e1.h
      -- self.tops = list(tops)
      refine ⟨_, rfl, a1, xs1, rfl, .inl (SqL.of (s1 _ _ h1)), fun p1 np1 => ?_⟩
      have s2 : Same H1 (upd H1 p1 (.lst xs1)) := same_upd np1
      refine ⟨_, rfl, x, cls 0, dx, [], rfl, s2 _ _ (s1 _ _ hx), cl, n1, (by show 0 < 1000; decide), ?_⟩
      generalize hH2 : upd (upd H1 p1 (.lst xs1)) x (.ins (cls 0) dx (putF "tops" (.ref p1) [])) = H2
      have x1 : x ≠ p1 := ne_of_none (s1 _ _ hx) np1
      have k2 : ∀ b o, b ≠ x → H b = some o → H2 b = some o := fun b o hb z => by rw [← hH2, upd_ne hb]; exact s2 _ _ (s1 _ _ z)
      have hx2 : H2 x = some (.ins (cls 0) dx (putF "tops" (.ref p1) [])) := by rw [← hH2]; exact upd_same
      have hp1 : H2 p1 = some (.lst xs1) := by rw [← hH2, upd_ne x1.symm]; exact upd_same
      have f2 : ∀ {p}, H2 p = none → H p = none := fun {p} z => by
        cases q0 : H p with
        | none => rfl
        | some o =>
          by_cases px : p = x
          · subst px; rw [hx2] at z; cases z
          · rw [k2 p o px q0] at z; cases z
      have ax : ∀ {a xs}, H a = some (.lst xs) → a ≠ x := fun {a xs} z e => by subst e; rw [hx] at z; cases z
      -- self.rows = list(rows)
      refine ⟨_, rfl, a2, xs2, rfl, .inl (SqL.of (k2 _ _ (ax h2) h2)), fun p2 np2 => ?_⟩
      have x2 : x ≠ p2 := ne_of_none hx2 np2
      refine ⟨_, rfl, x, cls 0, dx, _, rfl, (by rw [upd_ne x2]; exact hx2), cl, n2, (by show 1 < 1000; decide), ?_⟩
      generalize hH3 : upd (upd H2 p2 (.lst xs2)) x (.ins (cls 0) dx (putF "rows" (.ref p2) (putF "tops" (.ref p1) []))) = H3
      have k3 : ∀ b o, b ≠ x → H2 b = some o → H3 b = some o := fun b o hb z => by rw [← hH3, upd_ne hb]; exact same_upd np2 _ _ z
      have hx3 : H3 x = some (.ins (cls 0) dx (putF "rows" (.ref p2) (putF "tops" (.ref p1) []))) := by rw [← hH3]; exact upd_same
      have hp2 : H3 p2 = some (.lst xs2) := by rw [← hH3, upd_ne x2.symm]; exact upd_same
      have f3 : ∀ {p}, H3 p = none → H2 p = none := fun {p} z => by
        cases q0 : H2 p with
        | none => rfl
        | some o =>
          by_cases px : p = x
          · subst px; rw [hx3] at z; cases z
          · rw [k3 p o px q0] at z; cases z
      -- self.gain = list(gain)
      refine ⟨_, rfl, a3, xs3, rfl, .inl (SqL.of (k3 _ _ (ax h3) (k2 _ _ (ax h3) h3))), fun p3 np3 => ?_⟩
      have x3 : x ≠ p3 := ne_of_none hx3 np3
      refine ⟨_, rfl, x, cls 0, dx, _, rfl, (by rw [upd_ne x3]; exact hx3), cl, n3, ?_, ?_⟩
      · have e2 : (putF "rows" (.ref p2) (putF "tops" (.ref p1) []) : List (Str × V)).length ≤ 2 := by
          have h1 : ¬ (("tops" : Str) = "rows") := by decide +kernel
          show (if ("tops" : Str) = "rows" then [(("rows" : Str), V.ref p2)] else (("tops" : Str), V.ref p1) :: putF "rows" (.ref p2) []).length ≤ 2
          rw [if_neg h1]
          exact Nat.le_refl _
        omega
      · refine q _ p1 p2 p3 (fun b o hb z => ?_) (s1.free np1) (f2 np2) (f2 (f3 np3)) ?_ ?_ ?_ upd_same
        · rw [upd_ne hb]
          exact same_upd np3 _ _ (k3 _ _ hb (k2 _ _ hb z))
        · rw [upd_ne x1.symm]
          exact same_upd np3 _ _ (k3 _ _ x1.symm hp1)
        · rw [upd_ne x2.symm]
          exact same_upd np3 _ _ hp2
        · rw [upd_ne x3.symm]
          exact upd_same
theorem init_ok {st : Stmt} {f : Addr} {fd : FuncData} {k : Nat} (F : Fun K "__init__" "Problem.__init__" st f fd) (S : FnScope ["self", "tops", "rows", "gain"] ["self", "tops", "rows", "gain"] (defScope st))
    (cl : Cls K (cls 0)) (n1 : NoAttr K (cls 0) "tops") (n2 : NoAttr K (cls 0) "rows") (n3 : NoAttr K (cls 0) "gain")
    (h : ∀ (cdv : Value) (A : Around) (outer : List Env) (s : Shared) (H : Hp) (E : XK), Room k (A.deeper (PyProof.Rows.envOfC "Problem.__init__" (defScope st) s.heap.objs.size f cdv)) →
      PSs (cxOf (L2.CX P w) P w K mg base ["self", "tops", "rows", "gain"] "Problem.__init__" (defScope st) f cdv A outer s H E) (defBody st) (tInit K cls xc fp fun c d _ H => E c d H)) :
    FnOk P w K mg base (L2.CX P w) (k + 1) f fd ["self", "tops", "rows", "gain"] (spI K cls xc fp) := by
  refine F.okX S (fun vs H Q E h => ?_) (fun cdv A outer s H vs Q E hr hsp => ⟨_, h cdv A outer s H E hr, init_pure cl n1 n2 n3 hsp⟩)
  obtain ⟨x, dx, v1, v2, v3, d1, d2, d3, rfl, _⟩ := h
  rfl
end
/-- the class, as callers need it -/
def MkAt (P : Program) (w : World) (K : PySem.W.Frag) (mg : Str → Option Value) (base : Heap) (cls xc : Nat → Addr) (k : Nat) (fp : List PyData → O PyData) : Prop :=
  ∃ f fd, FnOk P w K mg base (L2.CX P w) k f fd ["self", "tops", "rows", "gain"] (spI K cls xc fp) ∧ Mk K (cls 0) f ∧ mg "Problem" = some (.ref (cls 0)) ∧ Binds K fd ["self", "tops", "rows", "gain"] []
theorem pe_makeO {X : Cx} {cls xc : Nat → Addr} {k j : Nat} {fp : List PyData → O PyData} {E : XK} {p pos : Pos} {e : Expr} {es : List Expr} {t : TA} (o : MkAt X.prog X.w X.K X.mg X.base cls xc k fp) (hr : Room j X.A) (hk : k + 1 ≤ j) (hg : Gl X "Problem")
    (hx : Passes (L2.CX X.prog X.w) X E) (ha : PA X (e :: es) t) (he : starEach (e :: es) X.env = (false, eval e X.env) :: starEach es X.env := by rfl) (hpl : (backTo pos (starEach es X.env)).any (·.1) = false := by rfl) :
    PE X (.Call (.Name "Problem" p) (e :: es) [] pos) (tMake (cls 0) (spI X.K cls xc fp) [] E t) := by
  obtain ⟨f, fd, F, M, m, b⟩ := o
  exact pe_make M F (hr.mono hk) hg m b .nil hx ha (by decide) he hpl
theorem passW {X : Cx} {W : WX} {E : XK} (tk : Takes X W) (hE : W = fun c d _ H => E c d H) : Passes (L2.CX X.prog X.w) X E := passes_call tk fun c d σ H h => by rw [hE]; exact h
section
variable {K : PySem.W.Frag} {c : Ct} {own : List Nat} {b : Bool} {F H F' H' : Hp} {σ : L2.St} {ρ : Rho}
/-- what is_problem takes -/
def IsP (fp : List PyData → O PyData) : Prop := ∀ ds, fp ds = .ok (.bool true) → ∃ ts rs gs, ds = [.list ts, .list rs, .list gs]
def makeP (fp : List PyData → O PyData) (ds : List PyData) : O PyData := (noEx (fp ds)).bind fun d => match d with
  | .bool true => (match ds with
    | [.list ts, .list rs, .list gs] => .ok (D.prob ts rs gs)
    | _ => .bad)
  | .bool false => .ex 1
  | _ => .bad
def gMake (fp : List PyData → O PyData) (g : Rho → O (List PyData)) : Rho → O PyData := fun ρ => (g ρ).bind fun ds => if ds.length = 3 then makeP fp ds else .bad
/-- what stands in H' for good, if it is among what is kept -/
theorem upd_in {F' H' : Hp} {p a : Addr} {o u : HO} (hp : H' p = some o) (h : H' a = some u) (hf : a = p ∨ F' a = some u) : upd F' p o a = some u := by
  by_cases e : a = p
  · subst e
    rw [upd_same]
    rw [hp] at h
    exact h
  · rw [upd_ne e]
    exact hf.resolve_left e
theorem made_ext {H1 F1 H2 : Hp} {x dx p1 p2 p3 : Addr} {ts rs gs : List PyData} {xs1 xs2 xs3 : List V} (s : Same F1 H1) (nx : H1 x = none) (nd : H1 dx = none) (ne : dx ≠ x)
    (k : ∀ b o, b ≠ x → (upd (upd H1 dx (.own x)) x (.ins (c.cls 0) dx [])) b = some o → H2 b = some o)
    (n1 : (upd (upd H1 dx (.own x)) x (.ins (c.cls 0) dx [])) p1 = none) (n2 : (upd (upd H1 dx (.own x)) x (.ins (c.cls 0) dx [])) p2 = none) (n3 : (upd (upd H1 dx (.own x)) x (.ins (c.cls 0) dx [])) p3 = none)
    (q1 : H2 p1 = some (.lst xs1)) (q2 : H2 p2 = some (.lst xs2)) (q3 : H2 p3 = some (.lst xs3)) (qx : H2 x = some (.ins (c.cls 0) dx (pf p1 p2 p3)))
    (r1 : RepL K c.cls F1 xs1 ts) (r2 : RepL K c.cls F1 xs2 rs) (r3 : RepL K c.cls F1 xs3 gs) : ∃ F2, Ext F1 H1 F2 H2 ∧ Rep K c.cls F2 (.ref x) (D.prob ts rs gs) := by
  have hs : Same H1 H2 := fun b o z => by
    have b1 : b ≠ x := ne_of_none z nx
    have b2 : b ≠ dx := ne_of_none z nd
    exact k b o b1 (by rw [upd_ne b1, upd_ne b2]; exact z)
  have free : ∀ {p}, (upd (upd H1 dx (.own x)) x (.ins (c.cls 0) dx [])) p = none → H1 p = none := fun {p} z => by
    cases q : H1 p with
    | none => rfl
    | some o =>
      have b1 : p ≠ x := ne_of_none q nx
      have b2 : p ≠ dx := ne_of_none q nd
      rw [upd_ne b1, upd_ne b2, q] at z
      cases z
  have e0 : Ext F1 H1 F1 H2 := ⟨Same.refl _, hs, s.trans hs, fun _ _ z => .inl z⟩
  have e1 := e0.keep (free n1) q1
  have e2 := e1.keep (free n2) q2
  have e3 := e2.keep (free n3) q3
  have e4 := e3.keep nx qx
  refine ⟨_, e4, .ob upd_same ?_⟩
  rw [pf_eq]
  have w1 : upd (upd (upd (upd F1 p1 (.lst xs1)) p2 (.lst xs2)) p3 (.lst xs3)) x (.ins (c.cls 0) dx (pf p1 p2 p3)) p1 = some (.lst xs1) :=
    upd_in qx q1 (.inr (upd_in q3 q1 (.inr (upd_in q2 q1 (.inr upd_same)))))
  have w2 : upd (upd (upd (upd F1 p1 (.lst xs1)) p2 (.lst xs2)) p3 (.lst xs3)) x (.ins (c.cls 0) dx (pf p1 p2 p3)) p2 = some (.lst xs2) :=
    upd_in qx q2 (.inr (upd_in q3 q2 (.inr upd_same)))
  have w3 : upd (upd (upd (upd F1 p1 (.lst xs1)) p2 (.lst xs2)) p3 (.lst xs3)) x (.ins (c.cls 0) dx (pf p1 p2 p3)) p3 = some (.lst xs3) :=
    upd_in qx q3 (.inr upd_same)
  exact .cons (.ls w1 (r1.mono e4.f)) (.cons (.ls w2 (r2.mono e4.f)) (.cons (.ls w3 (r3.mono e4.f)) .nil))
theorem paired3 {α β : Type} {G : α → β → Prop} {xs : List α} {y z u : β} (h : Paired G xs [y, z, u]) : ∃ x x' x'', xs = [x, x', x''] ∧ G x y ∧ G x' z ∧ G x'' u := by
  cases h with
  | cons r t =>
    obtain ⟨x', x'', rfl, r', r''⟩ := paired2 t
    exact ⟨_, _, _, rfl, r, r', r''⟩
theorem fe_make {fp : List PyData → O PyData} {t : TA} {g : Rho → O (List PyData)} {E : XK} (hW : c.W = fun cl d _ H => E cl d H) (h : FA K c own false t g) : FE K c own b (tMake (c.cls 0) (spI K c.cls c.xc fp) [] E t) (gMake fp g) := FE.any fun σ H F ρ Q S q => by
  refine h σ H F ρ _ S (OPost.imp (fun ds q vs H1 F1 e1 r1 => ?_) (fun _ q => q) (OPost.bind q))
  split at q
  · rename_i hn
    obtain ⟨d1, d2, d3, rfl⟩ : ∃ a b c, ds = [a, b, c] := by
      match ds, hn with
      | [a, b, c], _ => exact ⟨a, b, c, rfl⟩
    obtain ⟨v1, v2, v3, rfl, y1, y2, y3⟩ := paired3 (show Paired (Rep1 K c F1 H1) vs [d1, d2, d3] from r1)
    intro x dx nx nd ne
    have sm : Same H1 (upd (upd H1 dx (.own x)) x (.ins (c.cls 0) dx [])) := fun b o z => by
      rw [upd_ne (ne_of_none z nx), upd_ne (ne_of_none z nd)]
      exact z
    refine ⟨x, dx, v1, v2, v3, d1, d2, d3, rfl, upd_same, ?_, ?_⟩
    · exact (RepL.cons (y1.full e1.s) (.cons (y2.full e1.s) (.cons (y3.full e1.s) .nil))).mono sm
    · unfold makeP at q
      cases e : fp [d1, d2, d3] with
      | ex n =>
        rw [e] at q
        exact (show False from q)
      | bad => rw [e] at q; exact (show False from q)
      | ok d =>
        rw [e] at q
        have q : OPost _ _ (match d with
          | .bool true => (match [d1, d2, d3] with
            | [.list ts, .list rs, .list gs] => O.ok (D.prob ts rs gs)
            | _ => .bad)
          | .bool false => .ex 1
          | _ => .bad) := q
        split at q
        · split at q
          · rename_i ts rs gs eq
            cases eq
            obtain ⟨a1, xs1, rfl, h1, z1⟩ := y1.lst e1.s
            obtain ⟨a2, xs2, rfl, h2, z2⟩ := y2.lst e1.s
            obtain ⟨a3, xs3, rfl, h3, z3⟩ := y3.lst e1.s
            refine ⟨true, rfl, ?_⟩
            rw [if_pos rfl]
            refine ⟨a1, a2, a3, xs1, xs2, xs3, rfl, rfl, rfl, sm _ _ h1, sm _ _ h2, sm _ _ h3, fun H2 p1 p2 p3 k n1 n2 n3 q1 q2 q3 qx => ⟨rfl, ?_⟩⟩
            obtain ⟨F2, e2, r2⟩ := made_ext (c := c) e1.s nx nd ne k n1 n2 n3 q1 q2 q3 qx z1 z2 z3
            exact q _ _ _ (e1.trans e2) r2
          · exact q.elim
        · refine ⟨false, rfl, ?_⟩
          rw [if_neg Bool.false_ne_true]
          intro H2 s2
          have := q H2 (e1.h.trans (sm.trans s2))
          rw [hW] at this
          exact this
        · exact q.elim
  · exact q.elim
end
end Fn

set_option Elab.async false
set_option linter.all false
set_option maxRecDepth 100000
/-! What comes of the words at a state: equations for simp; loops. -/
namespace Fn
open PySem PySem.Spec L2

/-! the line of lengths is kept shut -/
theorem lim_ge {n : Nat} (h : n ≤ 1000) : n ≤ lim := by unfold lim; omega
theorem lim_gt {n : Nat} (h : n < 1000) : n < lim := by unfold lim; omega
theorem limI_ge {n : Int} (h : n ≤ 1000) : n ≤ (lim : Int) := by unfold lim; omega
theorem limI_neg {n : Int} (h : -1000 ≤ n) : -(lim : Int) ≤ n := by unfold lim; omega
@[simp] theorem lim_ge0 : 0 ≤ lim := lim_ge (by decide)
@[simp] theorem lim_ge1 : 1 ≤ lim := lim_ge (by decide)
@[simp] theorem lim_ge2 : 2 ≤ lim := lim_ge (by decide)
@[simp] theorem lim_ge3 : 3 ≤ lim := lim_ge (by decide)
@[simp] theorem lim_ge4 : 4 ≤ lim := lim_ge (by decide)
@[simp] theorem lim_ge5 : 5 ≤ lim := lim_ge (by decide)
@[simp] theorem lim_ge6 : 6 ≤ lim := lim_ge (by decide)
theorem rng1_nat {m : Nat} (h : m ≤ 1000) : rng1 [.int m] = .ok (rangeD 0 m) := by
  show (if -(lim : Int) ≤ (m : Int) ∧ (m : Int) ≤ lim then O.ok (rangeD 0 (m : Int).toNat) else .bad) = _
  rw [if_pos ⟨limI_neg (by omega), limI_ge (by omega)⟩, Int.toNat_natCast]
section
variable (ρ : Rho) (d e : PyData) (ds es : List PyData) (g h u w : Rho → O PyData) (ga gb : Rho → O PyData) (gs : Rho → O (List PyData)) (t t' : Rho → O Bool) (r s : Rho → R) (i j k : Int) (n m : Nat)
@[simp] theorem bind_ok {α β : Type} (a : α) (f : α → O β) : O.bind (.ok a) f = f a := rfl
@[simp] theorem bind_ex {α β : Type} (n : Nat) (f : α → O β) : O.bind (.ex n) f = .ex n := rfl
@[simp] theorem bind_bad {α β : Type} (f : α → O β) : O.bind .bad f = .bad := rfl
@[simp] theorem go_ok {α : Type} (a : α) (f : α → R) : (O.ok a).go f = f a := rfl
@[simp] theorem go_ex {α : Type} (n : Nat) (f : α → R) : (O.ex n : O α).go f = .ex n := rfl
@[simp] theorem go_bad {α : Type} (f : α → R) : (O.bad : O α).go f = .bad := rfl
@[simp] theorem seq_nx (f : Rho → R) : (R.nx ρ).seq f = f ρ := rfl
@[simp] theorem seq_rt (f : Rho → R) : (R.rt d).seq f = .rt d := rfl
@[simp] theorem seq_ex (f : Rho → R) : (R.ex n).seq f = .ex n := rfl
@[simp] theorem seq_bad (f : Rho → R) : R.bad.seq f = .bad := rfl
@[simp] theorem seq_bk (f : Rho → R) : (R.bk ρ).seq f = .bk ρ := rfl
@[simp] theorem seq_ct (f : Rho → R) : (R.ct ρ).seq f = .ct ρ := rfl
@[simp] theorem noEx_ok {α : Type} (a : α) : noEx (.ok a) = .ok a := rfl
@[simp] theorem noEx_ex {α : Type} (n : Nat) : noEx (.ex n : O α) = .bad := rfl
@[simp] theorem noEx_bad {α : Type} : noEx (.bad : O α) = .bad := rfl
@[simp] theorem gC_ap : gC d ρ = .ok d := rfl
@[simp] theorem g2_ap (op : PyData → PyData → O PyData) : g2 op ga gb ρ = (ga ρ).bind fun d => (gb ρ).bind fun e => op d e := rfl
@[simp] theorem g1_ap (op : PyData → O PyData) : g1 op ga ρ = (ga ρ).bind op := rfl
@[simp] theorem gNilA_ap : gNilA ρ = .ok [] := rfl
@[simp] theorem gConsA_ap : gConsA g gs ρ = (g ρ).bind fun d => (gs ρ).bind fun ds => .ok (d :: ds) := rfl
@[simp] theorem gCall_ap (f : List PyData → O PyData) : gCall f gs ρ = (gs ρ).bind f := rfl
@[simp] theorem gTup_ap : Fn.gTup gs ρ = (gs ρ).bind fun ds => if ds.length ≤ lim then .ok (.tuple ds) else .bad := rfl
@[simp] theorem gLst_ap : gLst gs ρ = (gs ρ).bind fun ds => if ds.length ≤ lim then .ok (.list ds) else .bad := rfl
@[simp] theorem gBl_ap : gBl g ρ = (g ρ).bind fun d => match d with
  | .bool k => .ok k
  | _ => .bad := rfl
@[simp] theorem gTru_ap : gTru g ρ = (g ρ).bind truD := rfl
@[simp] theorem gNotT_ap : gNotT t ρ = (t ρ).bind fun k => .ok (!k) := rfl
@[simp] theorem gAndT_ap : gAndT t t' ρ = (t ρ).bind fun k => if k = true then t' ρ else .ok false := rfl
@[simp] theorem gOrT_ap : gOrT t t' ρ = (t ρ).bind fun k => if k = true then .ok true else t' ρ := rfl
@[simp] theorem gAndV_ap : gAndV g h ρ = (gBl g ρ).bind fun k => if k = true then h ρ else .ok (.bool false) := rfl
@[simp] theorem gOrV_ap : gOrV g h ρ = (gBl g ρ).bind fun k => if k = true then .ok (.bool true) else h ρ := rfl
@[simp] theorem gNotV_ap : gNotV g ρ = (gBl g ρ).bind fun k => .ok (.bool (!k)) := rfl
@[simp] theorem gIf_ap : gIf t g h ρ = (t ρ).bind fun k => if k = true then g ρ else h ρ := rfl
@[simp] theorem g2L_ap (op : PyData → PyData → O (List PyData)) : g2L op ga gb ρ = (ga ρ).bind fun d => (gb ρ).bind fun e => (op d e).bind fun ds => .ok (.list ds) := rfl
@[simp] theorem gNoP_ap : gNoP ρ = .ok none := rfl
@[simp] theorem gPart_ap : gPart g ρ = (g ρ).bind fun d => match d with
  | .int i => .ok (some i)
  | _ => .bad := rfl
@[simp] theorem gSl_ap (gl gh : Rho → O (Option Int)) : gSl g gl gh ρ = (g ρ).bind fun d => (gl ρ).bind fun lo => (gh ρ).bind fun hi => dSl d lo hi := rfl
@[simp] theorem gSlL_ap (gl gh : Rho → O (Option Int)) : gSlL g gl gh ρ = (g ρ).bind fun d => (gl ρ).bind fun lo => (gh ρ).bind fun hi => dSlL d lo hi := rfl
@[simp] theorem gListOf_ap : gListOf gs ρ = (gs ρ).bind fun ds => (bListL ds).bind fun es => .ok (.list es) := rfl
@[simp] theorem gIsi_ap (T : String) : gIsi T g ρ = (g ρ).bind (bIsi T) := rfl
@[simp] theorem gChain_ap (op op' : PyData → PyData → O PyData) : gChain op op' g h u ρ = (g ρ).bind fun d => (h ρ).bind fun e => (noEx (op d e)).bind fun z => match z with
  | .bool k => if k = true then (u ρ).bind fun f => noEx (op' e f) else .ok (.bool false)
  | _ => .bad := rfl
@[simp] theorem gFn_ap (f : List PyData → O PyData) : gFn n f gs ρ = (gs ρ).bind fun ds => if ds.length = n then f ds else .bad := rfl
@[simp] theorem gFnB_ap (f : List PyData → O PyData) : gFnB n f gs ρ = (gs ρ).bind fun ds => if ds.length = n then (f ds).bind flatO else .bad := rfl
@[simp] theorem gMake_ap (f : List PyData → O PyData) : gMake f gs ρ = (gs ρ).bind fun ds => if ds.length = 3 then makeP f ds else .bad := rfl
@[simp] theorem gNext_ap : gNext ρ = .nx ρ := rfl
@[simp] theorem gSeq_ap : gSeq r s ρ = (r ρ).seq s := rfl
@[simp] theorem gIfS_ap : gIfS t r s ρ = (t ρ).go fun k => if k = true then r ρ else s ρ := rfl
@[simp] theorem gSet_ap : gSet n g ρ = (g ρ).go fun d => .nx (ρ.set n (some d)) := rfl
@[simp] theorem gAsg_ap (f : PyData → Rho → O Rho) : gAsg f g ρ = (g ρ).go fun d => (f d ρ).go .nx := rfl
@[simp] theorem aName_ap : aName n d ρ = .ok (ρ.set n (some d)) := rfl
@[simp] theorem aTup_ap (f : List PyData → Rho → O Rho) : aTup f (.tuple ds) ρ = f ds ρ := rfl
@[simp] theorem aNil_ap : aNil [] ρ = .ok ρ := rfl
@[simp] theorem aCons_ap (f : PyData → Rho → O Rho) (fs : List PyData → Rho → O Rho) : aCons f fs (d :: ds) ρ = (f d ρ).bind fun ρ' => fs ds ρ' := rfl
@[simp] theorem gDrop_ap : gDrop g ρ = (g ρ).go fun _ => .nx ρ := rfl
@[simp] theorem gRet_ap : gRet g ρ = (g ρ).go .rt := rfl
@[simp] theorem gRetN_ap : gRetN ρ = .rt .none := rfl
@[simp] theorem gRaise_ap : gRaise n ρ = .ex n := rfl
@[simp] theorem gBreak_ap : gBreak ρ = .bk ρ := rfl
@[simp] theorem gCont_ap : gCont ρ = .ct ρ := rfl
@[simp] theorem gAppend_ap : gAppend n g ρ = (lsAt n ρ).go fun _ => (g ρ).go fun d => (lsAt n ρ).go fun ds => if ds.length < lim then .nx (ρ.set n (some (.list (ds ++ [d])))) else .bad := rfl
@[simp] theorem gExtend_ap : gExtend n g ρ = (lsAt n ρ).go fun _ => (g ρ).go fun d => match d with
  | .list es => (lsAt n ρ).go fun ds => if ds.length + es.length ≤ lim then .nx (ρ.set n (some (.list (ds ++ es)))) else .bad
  | _ => .bad := rfl
@[simp] theorem gClear_ap : gClear n ρ = (lsAt n ρ).go fun _ => .nx (ρ.set n (some (.list []))) := rfl
@[simp] theorem gPopSet_ap : gPopSet m n ρ = (lsAt n ρ).go fun ds => match ds[ds.length - 1]? with
  | some d => .nx ((ρ.set n (some (.list ds.dropLast))).set m (some d))
  | none => .bad := rfl
@[simp] theorem gSetIx_ap : gSetIx n h g ρ = (g ρ).go fun d => (lsAt n ρ).go fun _ => (h ρ).go fun k => match k with
  | .int k => (lsAt n ρ).go fun ds => match ixN ds.length k with
    | some j => .nx (ρ.set n (some (.list (ds.set j d))))
    | none => .bad
  | _ => .bad := rfl
theorem gFor_ap (f : PyData → Rho → O Rho) : gFor f gs r ρ = (gs ρ).go fun ds => forL f r ds ρ := rfl
@[simp] theorem gItA_ap : gItA g ρ = (g ρ).bind itemsA := rfl
@[simp] theorem gRng1_ap : gRng1 gs ρ = (gs ρ).bind rng1 := rfl
@[simp] theorem gRng2_ap : gRng2 gs ρ = (gs ρ).bind rng2 := rfl
@[simp] theorem gEnum_ap : gEnum gs ρ = (gs ρ).bind enumI := rfl
@[simp] theorem gZip_ap : gZip gs ρ = (gs ρ).bind zipI := rfl
@[simp] theorem gYes_ap : gYes ρ = .ok true := rfl
@[simp] theorem gFld_ap (f : Str) : gFld f n g ρ = (g ρ).bind fun d => match d with
  | .dict ((.bool true, .int j) :: gs) => if j = (n : Int) then (match fieldD f gs with
    | some e => .ok e
    | none => .bad) else .bad
  | _ => .bad := rfl
theorem gComp_ap (vs : List Nat) (f : PyData → Rho → O Rho) (gi : Rho → O (List PyData)) : gComp vs f t g gi ρ = (gi ρ).bind fun ds => if ds.length ≤ lim then (compL f t g (wipeR ρ vs) ds).bind fun ys => .ok (.list ys) else .bad := rfl
@[simp] theorem wipeR_nil : wipeR ρ [] = ρ := rfl
@[simp] theorem wipeR_cons (v : Nat) (vs : List Nat) : wipeR ρ (v :: vs) = (wipeR ρ vs).set v none := rfl
/-! slots -/
@[simp] theorem gVar_0 : gVar 0 (some d :: ρ) = .ok d := rfl
@[simp] theorem gVar_s (x : Option PyData) : gVar (n + 1) (x :: ρ) = gVar n ρ := rfl
@[simp] theorem lsAt_0 : lsAt 0 (some (.list ds) :: ρ) = .ok ds := rfl
@[simp] theorem lsAt_s (x : Option PyData) : lsAt (n + 1) (x :: ρ) = lsAt n ρ := rfl
/-! operators -/
@[simp] theorem dAdd_int : dAdd (.int i) (.int j) = .ok (.int (i + j)) := rfl
@[simp] theorem dSub_int : dSub (.int i) (.int j) = .ok (.int (i - j)) := rfl
@[simp] theorem dMul_int : dMul (.int i) (.int j) = if mulOk i j = true then .ok (.int (i * j)) else .bad := rfl
@[simp] theorem dMod_int : dMod (.int i) (.int j) = if 0 < j then .ok (.int (i % j)) else .bad := rfl
@[simp] theorem dFdiv_int : dFdiv (.int i) (.int j) = if 0 < j ∧ j.natAbs.log2 < 9000 then .ok (.int (i / j)) else .bad := rfl
@[simp] theorem dNeg_int : dNeg (.int i) = .ok (.int (-i)) := rfl
@[simp] theorem dLt_int : dLt (.int i) (.int j) = .ok (.bool (decide (i < j))) := rfl
@[simp] theorem dLe_int : dLe (.int i) (.int j) = .ok (.bool (decide (i ≤ j))) := rfl
@[simp] theorem dGt_int : dGt (.int i) (.int j) = .ok (.bool (decide (j < i))) := rfl
@[simp] theorem dGe_int : dGe (.int i) (.int j) = .ok (.bool (decide (j ≤ i))) := rfl
@[simp] theorem dEq_int : dEq (.int i) (.int j) = .ok (.bool (decide (i = j))) := by
  have : PyData.eqv (.int i) (.int j) = decide (i = j) := by
    show (i == j) = decide (i = j)
    rfl
  show (if (true || _) = true then O.ok (PyData.bool (PyData.eqv (.int i) (.int j))) else .bad) = _
  rw [this]
  rfl
@[simp] theorem dNe_int : dNe (.int i) (.int j) = .ok (.bool (!decide (i = j))) := by
  have : PyData.eqv (.int i) (.int j) = decide (i = j) := by
    show (i == j) = decide (i = j)
    rfl
  show (if (true || _) = true then O.ok (PyData.bool (!PyData.eqv (.int i) (.int j))) else .bad) = _
  rw [this]
  rfl
@[simp] theorem dCat_l : dCat (.list ds) (.list es) = if ds.length + es.length ≤ lim then .ok (ds ++ es) else .bad := rfl
@[simp] theorem dAdd_l : dAdd (.list ds) (.list es) = if ds.length + es.length ≤ lim then .ok (.list (ds ++ es)) else .bad := rfl
@[simp] theorem dRep_l : dRep (.list ds) (.int k) = repL ds k := rfl
@[simp] theorem dMul_l : dMul (.list ds) (.int k) = (repL ds k).bind fun ys => .ok (.list ys) := rfl
@[simp] theorem dSl_l (lo hi : Option Int) : dSl (.list ds) lo hi = .ok (.list (cutL ds lo hi)) := rfl
@[simp] theorem dSlL_l (lo hi : Option Int) : dSlL (.list ds) lo hi = .ok (.list (cutL ds lo hi)) := rfl
@[simp] theorem bLen_l : bLen [.list ds] = .ok (.int ds.length) := rfl
@[simp] theorem bLen_t : bLen [.tuple ds] = .ok (.int ds.length) := rfl
@[simp] theorem bLen_r : bLen [D.ro ds] = .ok (.int ds.length) := rfl
@[simp] theorem bListL_l : bListL [.list ds] = .ok ds := rfl
@[simp] theorem bListL_t : bListL [.tuple ds] = .ok ds := rfl
@[simp] theorem bTup_l : bTup [.list ds] = .ok (.tuple ds) := rfl
@[simp] theorem bTup_t : bTup [.tuple ds] = .ok (.tuple ds) := rfl
@[simp] theorem bMin_2 : bMin [.int i, .int j] = .ok (.int (if j < i then j else i)) := rfl
@[simp] theorem bMax_2 : bMax [.int i, .int j] = .ok (.int (if j > i then j else i)) := rfl
@[simp] theorem bInt_b (b : Bool) : bInt [.bool b] = .ok (.int (if b = true then 1 else 0)) := rfl
@[simp] theorem bInt_i : bInt [.int i] = .ok (.int i) := rfl
@[simp] theorem itemsA_l : itemsA (.list ds) = .ok ds := rfl
@[simp] theorem itemsA_t : itemsA (.tuple ds) = .ok ds := rfl
theorem rng1_i : rng1 [.int j] = if -(lim : Int) ≤ j ∧ j ≤ lim then .ok (rangeD 0 j.toNat) else .bad := rfl
@[simp] theorem enumI_l : enumI [.list ds] = .ok (enumD ds) := rfl
@[simp] theorem zipI_l : zipI [.list ds, .list es] = .ok (zipD ds es) := rfl
@[simp] theorem truD_b (b : Bool) : truD (.bool b) = .ok b := rfl
@[simp] theorem truD_n : truD .none = .ok false := rfl
@[simp] theorem outR_rt : outR (.rt d) = .ok d := rfl
@[simp] theorem outR_nx : outR (.nx ρ) = .ok .none := rfl
@[simp] theorem outR_ex : outR (.ex n) = .ex n := rfl
@[simp] theorem outR_bad : outR .bad = .bad := rfl
@[simp] theorem flatO_i : flatO (.int i) = .ok (.int i) := rfl
@[simp] theorem flatO_b (b : Bool) : flatO (.bool b) = .ok (.bool b) := rfl
@[simp] theorem flatO_n : flatO .none = .ok .none := rfl
theorem dIx_l {v : PyData} (h : atI ds i = some v) : dIx (.list ds) (.int i) = .ok v := by
  show (match atI ds i with
    | some d => O.ok d
    | none => .bad) = _
  rw [h]
theorem dIx_t {v : PyData} (h : atI ds i = some v) : dIx (.tuple ds) (.int i) = .ok v := by
  show (match atI ds i with
    | some d => O.ok d
    | none => .bad) = _
  rw [h]
theorem dIx_r {v : PyData} (h : atI ds i = some v) : dIx (D.ro ds) (.int i) = .ok v := by
  show (match atI ds i with
    | some d => O.ok d
    | none => .bad) = _
  rw [h]
end
/-- a product within the line: one side is small -/
theorem mulOk_l {i j : Int} (h : -(2 ^ 64) < i ∧ i < 2 ^ 64) : mulOk i j = true := by
  unfold mulOk
  rw [decide_eq_true h]
  simp
theorem mulOk_r {i j : Int} (h : -(2 ^ 64) < j ∧ j < 2 ^ 64) : mulOk i j = true := by
  unfold mulOk
  rw [decide_eq_true h]
  simp
theorem atI_of {α : Type} {xs : List α} {i : Int} (h0 : 0 ≤ i) (h : i < xs.length) : atI xs i = some (xs[i.toNat]'(by omega)) := by
  unfold atI ixN
  rw [if_pos h0, if_pos h]
  exact List.getElem?_eq_getElem _
theorem atI_neg {α : Type} {xs : List α} {i : Int} (h0 : i < 0) (h : -(xs.length : Int) ≤ i) : atI xs i = some (xs[(i + xs.length).toNat]'(by omega)) := by
  unfold atI ixN
  rw [if_neg (by omega), if_pos h]
  exact List.getElem?_eq_getElem _
theorem ixN_of {n : Nat} {i : Int} (h0 : 0 ≤ i) (h : i < n) : ixN n i = some i.toNat := by
  unfold ixN
  rw [if_pos h0, if_pos h]
/-! ### loops -/
theorem forL_inv {f : PyData → Rho → O Rho} {body : Rho → R} (I : Nat → Rho → Prop) : ∀ (ds : List PyData) (k : Nat) (ρ : Rho), I k ρ → (∀ i d ρ, ds[i]? = some d → I (k + i) ρ → ∃ ρ1 ρ2, f d ρ = .ok ρ1 ∧ body ρ1 = .nx ρ2 ∧ I (k + i + 1) ρ2) → ∃ ρ', forL f body ds ρ = .nx ρ' ∧ I (k + ds.length) ρ'
  | [], k, ρ, h, _ => ⟨ρ, rfl, h⟩
  | d :: ds, k, ρ, h, hs => by
    obtain ⟨ρ1, ρ2, h1, h2, h3⟩ := hs 0 d ρ rfl h
    obtain ⟨ρ', h4, h5⟩ := forL_inv I ds (k + 1) ρ2 h3 fun i e τ he hi => by
      have e1 : k + 1 + i = k + (i + 1) := by omega
      rw [e1] at hi ⊢
      exact hs (i + 1) e τ he hi
    refine ⟨ρ', ?_, by rw [List.length_cons]; have e1 : k + (ds.length + 1) = k + 1 + ds.length := by omega
                       rw [e1]; exact h5⟩
    unfold forL
    rw [h1, O.go_ok, h2]
    exact h4
theorem for_inv {f : PyData → Rho → O Rho} {body : Rho → R} {ds : List PyData} {ρ : Rho} (I : Nat → Rho → Prop) (h0 : I 0 ρ) (hs : ∀ i d ρ, ds[i]? = some d → I i ρ → ∃ ρ1 ρ2, f d ρ = .ok ρ1 ∧ body ρ1 = .nx ρ2 ∧ I (i + 1) ρ2) :
    ∃ ρ', forL f body ds ρ = .nx ρ' ∧ I ds.length ρ' := by
  have := forL_inv I ds 0 ρ h0 (fun i d ρ hd hi => by rw [Nat.zero_add] at hi ⊢; exact hs i d ρ hd hi)
  rw [Nat.zero_add] at this
  exact this
/-- a loop that may leave by a return -/
theorem forL_leave {f : PyData → Rho → O Rho} {body : Rho → R} (I : Nat → Rho → Prop) (P : R → Prop) : ∀ (ds : List PyData) (k : Nat) (ρ : Rho), I k ρ →
    (∀ i d ρ, ds[i]? = some d → I (k + i) ρ → ∃ ρ1, f d ρ = .ok ρ1 ∧ ((∃ ρ2, (body ρ1 = .nx ρ2 ∨ body ρ1 = .ct ρ2) ∧ I (k + i + 1) ρ2) ∨ (∃ v, body ρ1 = .rt v ∧ P (.rt v)) ∨ (∃ ρ2, body ρ1 = .bk ρ2 ∧ P (.nx ρ2)))) → (∀ ρ, I (k + ds.length) ρ → P (.nx ρ)) → P (forL f body ds ρ)
  | [], k, ρ, h, _, hp => hp ρ h
  | d :: ds, k, ρ, h, hs, hp => by
    have rest : ∀ ρ2, I (k + 1) ρ2 → P (forL f body ds ρ2) := fun ρ2 h3 => by
      refine forL_leave I P ds (k + 1) ρ2 h3 (fun i e τ he hi => ?_) fun τ ht => hp τ ?_
      · have e1 : k + 1 + i = k + (i + 1) := by omega
        rw [e1] at hi ⊢
        exact hs (i + 1) e τ he hi
      · rw [List.length_cons]
        have e1 : k + (ds.length + 1) = k + 1 + ds.length := by omega
        rw [e1]; exact ht
    obtain ⟨ρ1, h1, h2⟩ := hs 0 d ρ rfl h
    unfold forL
    rw [h1, O.go_ok]
    rcases h2 with ⟨ρ2, h2 | h2, h3⟩ | ⟨v, h2, h3⟩ | ⟨ρ2, h2, h3⟩
    · rw [h2]; exact rest ρ2 h3
    · rw [h2]; exact rest ρ2 h3
    · rw [h2]; exact h3
    · rw [h2]; exact h3
theorem for_leave {f : PyData → Rho → O Rho} {body : Rho → R} {ds : List PyData} {ρ : Rho} (I : Nat → Rho → Prop) (P : R → Prop) (h0 : I 0 ρ)
    (hs : ∀ i d ρ, ds[i]? = some d → I i ρ → ∃ ρ1, f d ρ = .ok ρ1 ∧ ((∃ ρ2, (body ρ1 = .nx ρ2 ∨ body ρ1 = .ct ρ2) ∧ I (i + 1) ρ2) ∨ (∃ v, body ρ1 = .rt v ∧ P (.rt v)) ∨ (∃ ρ2, body ρ1 = .bk ρ2 ∧ P (.nx ρ2)))) (hp : ∀ ρ, I ds.length ρ → P (.nx ρ)) : P (forL f body ds ρ) :=
  forL_leave I P ds 0 ρ h0 (fun i d ρ hd hi => by rw [Nat.zero_add] at hi ⊢; exact hs i d ρ hd hi) (fun ρ h => hp ρ (by rw [Nat.zero_add] at h; exact h))
/-! ### comprehensions -/
theorem compL_map {f : PyData → Rho → O Rho} {t : Rho → O Bool} {e : Rho → O PyData} {ρ : Rho} (y : PyData → PyData) : ∀ (ds : List PyData), (∀ d ∈ ds, ∃ ρ1, f d ρ = .ok ρ1 ∧ t ρ1 = .ok true ∧ e ρ1 = .ok (y d)) → compL f t e ρ ds = .ok (ds.map y)
  | [], _ => rfl
  | d :: ds, h => by
    obtain ⟨ρ1, h1, h2, h3⟩ := h d List.mem_cons_self
    unfold compL
    rw [h1, O.bind_ok, h2]
    show (noEx (e ρ1)).bind _ = _
    rw [h3]
    show (compL f t e ρ ds).bind _ = _
    rw [compL_map y ds fun d hd => h d (List.mem_cons_of_mem _ hd)]
    rfl
theorem compL_filter {f : PyData → Rho → O Rho} {t : Rho → O Bool} {e : Rho → O PyData} {ρ : Rho} (p : PyData → Bool) (y : PyData → PyData) : ∀ (ds : List PyData), (∀ d ∈ ds, ∃ ρ1, f d ρ = .ok ρ1 ∧ t ρ1 = .ok (p d) ∧ (p d = true → e ρ1 = .ok (y d))) → compL f t e ρ ds = .ok ((ds.filter p).map y)
  | [], _ => rfl
  | d :: ds, h => by
    obtain ⟨ρ1, h1, h2, h3⟩ := h d List.mem_cons_self
    have ih := compL_filter p y ds fun d hd => h d (List.mem_cons_of_mem _ hd)
    unfold compL
    rw [h1, O.bind_ok, h2]
    show (if p d = true then (noEx (e ρ1)).bind _ else compL f t e ρ ds) = _
    cases hp : p d with
    | true =>
      rw [if_pos rfl, h3 hp, List.filter_cons_of_pos hp]
      show (compL f t e ρ ds).bind _ = _
      rw [ih]
      rfl
    | false =>
      rw [if_neg Bool.false_ne_true, List.filter_cons_of_neg (by rw [hp]; exact Bool.false_ne_true)]
      exact ih
theorem compL_ex_of {f : PyData → Rho → O Rho} {t : Rho → O Bool} {e : Rho → O PyData} {ρ : Rho} (P : PyData → Prop) : ∀ (ds : List PyData), (∀ d ∈ ds, ∃ ρ1 y, f d ρ = .ok ρ1 ∧ t ρ1 = .ok true ∧ e ρ1 = .ok y ∧ P y) → ∃ ys, compL f t e ρ ds = .ok ys ∧ ys.length = ds.length ∧ ∀ y ∈ ys, P y
  | [], _ => ⟨[], rfl, rfl, fun y hy => by cases hy⟩
  | d :: ds, h => by
    obtain ⟨ρ1, y, h1, h2, h3, h4⟩ := h d List.mem_cons_self
    obtain ⟨ys, k1, k2, k3⟩ := compL_ex_of P ds fun d hd => h d (List.mem_cons_of_mem _ hd)
    refine ⟨y :: ys, ?_, by rw [List.length_cons, List.length_cons, k2], fun z hz => ?_⟩
    · unfold compL
      rw [h1, O.bind_ok, h2]
      show (noEx (e ρ1)).bind _ = _
      rw [h3]
      show (compL f t e ρ ds).bind _ = _
      rw [k1]
      rfl
    · rcases List.mem_cons.mp hz with rfl | hz
      · exact h4
      · exact k3 z hz
theorem rangeD_mem {lo : Int} {n : Nat} {d : PyData} (h : d ∈ rangeD lo n) : ∃ i : Nat, i < n ∧ d = .int (lo + i) := by
  unfold rangeD at h
  obtain ⟨i, hi, rfl⟩ := List.mem_map.mp h
  exact ⟨i, List.mem_range.mp hi, rfl⟩
/-- all of them whole numbers with a property -/
theorem ints_of {P : Int → Prop} : ∀ {ys : List PyData}, (∀ y ∈ ys, ∃ k, y = .int k ∧ P k) → ∃ ks : List Int, ys = ks.map PyData.int ∧ ks.length = ys.length ∧ ∀ k ∈ ks, P k
  | [], _ => ⟨[], rfl, rfl, fun k h => by cases h⟩
  | y :: ys, h => by
    obtain ⟨k, rfl, hk⟩ := h y List.mem_cons_self
    obtain ⟨ks, rfl, h2, h3⟩ := ints_of fun z hz => h z (List.mem_cons_of_mem _ hz)
    refine ⟨k :: ks, rfl, by simp, fun z hz => ?_⟩
    rcases List.mem_cons.mp hz with rfl | hz
    · exact hk
    · exact h3 z hz
end Fn
namespace Fn
open PySem PySem.Spec L2
theorem atI_getD {α : Type} {xs : List α} {i : Int} (d : α) (h0 : 0 ≤ i) (h : i < xs.length) : atI xs i = some (xs.getD i.toNat d) := by
  rw [atI_of h0 h, List.getD_eq_getElem?_getD, List.getElem?_eq_getElem (by omega)]
  rfl
theorem atI_map {α β : Type} (f : α → β) (xs : List α) (i : Int) : atI (xs.map f) i = (atI xs i).map f := by
  unfold atI
  rw [List.length_map]
  cases ixN xs.length i with
  | none => rfl
  | some j => exact List.getElem?_map
end Fn
namespace Fn
open PySem PySem.Spec L2
theorem comp_ints {vs : List Nat} {i : Nat} {E : Rho → O PyData} {gi : Rho → O (List PyData)} {ρ : Rho} {ds : List PyData} (P : Int → Prop) (hg : gi ρ = .ok ds) (hn : ds.length ≤ lim)
    (h : ∀ d ∈ ds, ∃ k, E ((wipeR ρ vs).set i (some d)) = .ok (.int k) ∧ P k) : ∃ ks : List Int, gComp vs (aName i) gYes E gi ρ = .ok (.list (ks.map PyData.int)) ∧ ks.length = ds.length ∧ ∀ k ∈ ks, P k := by
  obtain ⟨ys, h1, h2, h3⟩ := compL_ex_of (f := aName i) (t := gYes) (e := E) (ρ := wipeR ρ vs) (fun y => ∃ k, y = .int k ∧ P k) ds fun d hd => by
    obtain ⟨k, e, p⟩ := h d hd
    exact ⟨_, _, rfl, rfl, e, k, rfl, p⟩
  obtain ⟨ks, rfl, h4, h5⟩ := ints_of h3
  refine ⟨ks, ?_, h4.trans h2, h5⟩
  rw [gComp_ap, hg]
  simp [hn, h1]
theorem comp_map {vs : List Nat} {i : Nat} {E : Rho → O PyData} {gi : Rho → O (List PyData)} {ρ : Rho} {ds : List PyData} (y : PyData → PyData) (hg : gi ρ = .ok ds) (hn : ds.length ≤ lim)
    (h : ∀ d ∈ ds, E ((wipeR ρ vs).set i (some d)) = .ok (y d)) : gComp vs (aName i) gYes E gi ρ = .ok (.list (ds.map y)) := by
  rw [gComp_ap, hg]
  have := compL_map (f := aName i) (t := gYes) (e := E) (ρ := wipeR ρ vs) y ds fun d hd => ⟨_, rfl, rfl, h d hd⟩
  simp [hn, this]
theorem comp_filter {vs : List Nat} {i : Nat} {T : Rho → O Bool} {E : Rho → O PyData} {gi : Rho → O (List PyData)} {ρ : Rho} {ds : List PyData} (p : PyData → Bool) (y : PyData → PyData) (hg : gi ρ = .ok ds) (hn : ds.length ≤ lim)
    (ht : ∀ d ∈ ds, T ((wipeR ρ vs).set i (some d)) = .ok (p d)) (h : ∀ d ∈ ds, p d = true → E ((wipeR ρ vs).set i (some d)) = .ok (y d)) : gComp vs (aName i) T E gi ρ = .ok (.list ((ds.filter p).map y)) := by
  rw [gComp_ap, hg]
  have := compL_filter (f := aName i) (t := T) (e := E) (ρ := wipeR ρ vs) p y ds fun d hd => ⟨_, rfl, ht d hd, h d hd⟩
  simp [hn, this]
theorem rangeD_int (n : Nat) : rangeD 0 n = (List.range n).map fun (i : Nat) => PyData.int i := by
  unfold rangeD
  congr 1
  funext i
  rw [Int.zero_add]
theorem rangeD_at {n i : Nat} {d : PyData} (h : (rangeD 0 n)[i]? = some d) : d = .int i ∧ i < n := by
  refine ⟨by have := rangeD_get h; rw [Int.zero_add] at this; exact this, ?_⟩
  have := (List.getElem?_eq_some_iff.mp h).1
  rw [rangeD_length] at this
  exact this
theorem set_ints (ts : List Int) (j : Nat) (v : Int) : (ts.map PyData.int).set j (.int v) = (ts.set j v).map PyData.int := List.map_set.symm
end Fn
namespace Fn
open PySem PySem.Spec L2
section
variable (i : Int) (b : Bool) (z : Str) (ds : List PyData)
@[simp] theorem isi_int_n : bIsi "int" .none = .ok (.bool false) := rfl
@[simp] theorem isi_int_b : bIsi "int" (.bool b) = .ok (.bool true) := by cases b <;> rfl
@[simp] theorem isi_int_i : bIsi "int" (.int i) = .ok (.bool true) := rfl
@[simp] theorem isi_int_s : bIsi "int" (.str z) = .ok (.bool false) := rfl
@[simp] theorem isi_int_l : bIsi "int" (.list ds) = .ok (.bool false) := rfl
@[simp] theorem isi_int_t : bIsi "int" (.tuple ds) = .ok (.bool false) := rfl
@[simp] theorem isi_bool_n : bIsi "bool" .none = .ok (.bool false) := rfl
@[simp] theorem isi_bool_b : bIsi "bool" (.bool b) = .ok (.bool true) := rfl
@[simp] theorem isi_bool_i : bIsi "bool" (.int i) = .ok (.bool false) := rfl
@[simp] theorem isi_bool_s : bIsi "bool" (.str z) = .ok (.bool false) := rfl
@[simp] theorem isi_bool_l : bIsi "bool" (.list ds) = .ok (.bool false) := rfl
@[simp] theorem isi_bool_t : bIsi "bool" (.tuple ds) = .ok (.bool false) := rfl
@[simp] theorem isi_list_n : bIsi "list" .none = .ok (.bool false) := rfl
@[simp] theorem isi_list_b : bIsi "list" (.bool b) = .ok (.bool false) := rfl
@[simp] theorem isi_list_i : bIsi "list" (.int i) = .ok (.bool false) := rfl
@[simp] theorem isi_list_s : bIsi "list" (.str z) = .ok (.bool false) := rfl
@[simp] theorem isi_list_l : bIsi "list" (.list ds) = .ok (.bool true) := rfl
@[simp] theorem isi_list_t : bIsi "list" (.tuple ds) = .ok (.bool false) := rfl
@[simp] theorem isi_tuple_n : bIsi "tuple" .none = .ok (.bool false) := rfl
@[simp] theorem isi_tuple_b : bIsi "tuple" (.bool b) = .ok (.bool false) := rfl
@[simp] theorem isi_tuple_i : bIsi "tuple" (.int i) = .ok (.bool false) := rfl
@[simp] theorem isi_tuple_s : bIsi "tuple" (.str z) = .ok (.bool false) := rfl
@[simp] theorem isi_tuple_l : bIsi "tuple" (.list ds) = .ok (.bool false) := rfl
@[simp] theorem isi_tuple_t : bIsi "tuple" (.tuple ds) = .ok (.bool true) := rfl
@[simp] theorem isi_str_n : bIsi "str" .none = .ok (.bool false) := rfl
@[simp] theorem isi_str_b : bIsi "str" (.bool b) = .ok (.bool false) := rfl
@[simp] theorem isi_str_i : bIsi "str" (.int i) = .ok (.bool false) := rfl
@[simp] theorem isi_str_s : bIsi "str" (.str z) = .ok (.bool true) := rfl
@[simp] theorem isi_str_l : bIsi "str" (.list ds) = .ok (.bool false) := rfl
@[simp] theorem isi_str_t : bIsi "str" (.tuple ds) = .ok (.bool false) := rfl
end
/-! slices -/
theorem cutL_to {α : Type} (ds : List α) (k : Nat) : cutL ds none (some (k : Int)) = ds.take k := by
  unfold cutL
  rw [HT.sIx_none, HT.sIx_nat, List.drop_zero, Nat.sub_zero]
  by_cases h : k ≤ ds.length
  · rw [Nat.min_eq_left h]
  · rw [Nat.min_eq_right (by omega), List.take_of_length_le (Nat.le_refl _), List.take_of_length_le (by omega)]
theorem cutL_from {α : Type} (ds : List α) (k : Nat) : cutL ds (some (k : Int)) none = ds.drop k := by
  unfold cutL
  rw [HT.sIx_none, HT.sIx_nat]
  by_cases h : k ≤ ds.length
  · rw [Nat.min_eq_left h, List.take_of_length_le (by rw [List.length_drop]; exact Nat.le_refl _)]
  · rw [Nat.min_eq_right (by omega), Nat.sub_self, List.take_zero, List.drop_eq_nil_of_le (by omega)]
theorem cutL_from1 {α : Type} (ds : List α) (k : Nat) : cutL ds (some ((k : Int) + 1)) none = ds.drop (k + 1) := cutL_from ds (k + 1)
theorem cutL_last {α : Type} (ds : List α) : cutL ds none (some (-1)) = ds.dropLast := by
  unfold cutL
  rw [HT.sIx_none, List.drop_zero, Nat.sub_zero]
  have e : HT.sIx ds.length ds.length (some (-1)) = ds.length - 1 := by
    have := HT.clip_eq (-1) ds.length ds.length
    rw [if_pos (by decide)] at this
    omega
  rw [e, ← List.dropLast_eq_take]
/-- one of a written list -/
theorem pick (l : List PyData) (c : Int) (m : Int) (hm : m = l.length) (h0 : 0 < m) : ∃ d, d ∈ l ∧ dIx (.list l) (.int (c % m)) = .ok d := by
  have h1 : 0 ≤ c % m := Int.emod_nonneg _ (by omega)
  have h2 : c % m < m := Int.emod_lt_of_pos _ h0
  have h3 := atI_of (xs := l) h1 (by omega)
  exact ⟨_, List.getElem_mem _, dIx_l _ _ h3⟩
theorem bAll_map {α : Type} (p : α → Bool) (ds : List α) : bAll [.list (ds.map fun d => PyData.bool (p d))] = .ok (.bool (ds.all p)) := by
  have e : (ds.map fun d => PyData.bool (p d)) = (ds.map p).map PyData.bool := by rw [List.map_map]; rfl
  unfold bAll
  rw [e]
  show (match blsD ((ds.map p).map PyData.bool) with
    | some ks => O.ok (PyData.bool (ks.all id))
    | none => .bad) = _
  rw [blsD_map]
  show O.ok (PyData.bool ((ds.map p).all id)) = _
  rw [List.all_map]
  rfl
theorem nat_of {c m : Int} (h : 0 < m) : ∃ j : Nat, c % m = j ∧ (j : Int) < m := by
  have h1 : 0 ≤ c % m := Int.emod_nonneg _ (by omega)
  exact ⟨(c % m).toNat, by omega, by have := Int.emod_lt_of_pos c h; omega⟩
end Fn

set_option Elab.async false
set_option linter.all false
set_option maxRecDepth 100000
/-! Lists of their own behind one list: what is handed in. -/
namespace Fn
open PySem PySem.Spec L2
section
variable {K : PySem.W.Frag} {cls : Nat → Addr} {c : Ct} {own : List Nat} {F H F' H' : Hp} {σ : L2.St} {ρ : Rho} {a p : Addr} {es : List PyData}
/-- a list of its own: at a in H, not in F; its items in F -/
def Own1 (K : PySem.W.Frag) (cls : Nat → Addr) (F H : Hp) (a : Addr) (es : List PyData) : Prop := ∃ ys, H a = some (.lst ys) ∧ F a = none ∧ RepL K cls F ys es
theorem Ext.stays {o : HO} (e : Ext F H F' H') (h1 : H a = some o) (h2 : F a = none) : F' a = none := by
  cases q : F' a with
  | none => rfl
  | some u =>
    rcases e.n a u q with z | z
    · rw [h2] at z; cases z
    · rw [h1] at z; cases z
theorem Own1.ext (o : Own1 K cls F H a es) (e : Ext F H F' H') : Own1 K cls F' H' a es := by
  obtain ⟨ys, h1, h2, h3⟩ := o
  exact ⟨ys, e.h _ _ h1, e.stays h1 h2, h3.mono e.f⟩
theorem Own1.upd {u : HO} (o : Own1 K cls F H a es) (hp : a ≠ p) : Own1 K cls F (L2.upd H p u) a es := by
  obtain ⟨ys, h1, h2, h3⟩ := o
  exact ⟨ys, by rw [upd_ne hp]; exact h1, h2, h3⟩
theorem Own1.ne (o : Own1 K cls F H a es) (hp : H p = none) : a ≠ p := by
  obtain ⟨ys, h1, h2, h3⟩ := o
  exact ne_of_none h1 hp
theorem paired_imp {α β : Type} {R R' : α → β → Prop} : ∀ {xs : List α} {ys : List β}, Paired R xs ys → (∀ x y, x ∈ xs → R x y → R' x y) → Paired R' xs ys
  | _, _, .nil, _ => .nil
  | _, _, .cons r t, h => .cons (h _ _ List.mem_cons_self r) (paired_imp t fun x y m => h x y (List.mem_cons_of_mem _ m))
theorem paired_len {α β : Type} {R : α → β → Prop} : ∀ {xs : List α} {ys : List β}, Paired R xs ys → xs.length = ys.length
  | _, _, .nil => rfl
  | _, _, .cons _ t => by rw [List.length_cons, List.length_cons, paired_len t]
theorem paired_get {α β : Type} {R : α → β → Prop} : ∀ {xs : List α} {ys : List β} {k : Nat} {x : α}, Paired R xs ys → xs[k]? = some x → ∃ y, ys[k]? = some y ∧ R x y
  | _, _, k, x, .nil, h => by cases h
  | _, _, 0, x, .cons r t, h => by cases h; exact ⟨_, rfl, r⟩
  | _, _, k + 1, x, .cons r t, h => paired_get (k := k) t h
theorem yes_rd {Q : Bool → Hp → Prop} (h : Q true H) : tYes σ H Q := h
theorem ifT {A B : Prop} (h : A) : if true = true then A else B := by
  rw [if_pos rfl]
  exact h
theorem rd_copies {i : Nat} {wi : TI} {gi : Rho → O (List PyData)} {Q : VK} (hi : FI K c own wi gi) (hio : own.contains i = false) (S : Sim K c.cls c.B own σ H F ρ) (hl : i < ρ.length) {ds : List PyData} {ess : List (List PyData)} (hg : gi ρ = .ok ds) (hn : ds.length ≤ 1000)
    (hd : Paired (fun d es => d = PyData.list es ∨ d = PyData.tuple es) ds ess)
    (q : ∀ p as H' F', Ext F H F' H' → H p = none → F' p = none → (∀ a ∈ as, H a = none) → as.Nodup → p ∉ as → H' p = some (.lst (as.map V.ref)) → Paired (Own1 K c.cls F' H') as ess → Q (.ref p) H') :
    tLc wi (gName i) tYes (tCB (rListOf K) (tCons (tVar i) tNil)) [i] σ H Q := by
  refine hi σ H F ρ _ S ?_
  rw [hg]
  intro J H1 F1 e1 it A hA
  have S1 := S.ext e1
  have hel := paired_len hd
  refine ⟨fun k m H2 => m = ds.length - k ∧ k ≤ ds.length ∧ ∃ F2 as, Ext F1 H1 F2 H2 ∧ H2 A = some (.lst (as.map V.ref)) ∧ F2 A = none ∧ Paired (Own1 K c.cls F2 H2) as (ess.take k) ∧ as.Nodup ∧ A ∉ as ∧ (∀ a ∈ as, H1 a = none) ∧ as.length = k,
    ⟨ds.length, by omega, Nat.zero_le _, F1, [], Ext.newO e1.s hA, upd_same, e1.s.free hA, by rw [List.take_zero]; exact .nil, List.nodup_nil, List.not_mem_nil, fun _ h => absurd h List.not_mem_nil, rfl⟩, ?_⟩
  rintro k m H2 ⟨rfl, hle, F2, as, e2, hD, hF, hp, hnd, hna, hnew, hlen⟩
  obtain ⟨i1, i2, i3⟩ := it F2 H2 e2.f e2.s k
  by_cases hlt : k < ds.length
  · refine .inr ⟨i1 hlt, fun H3 => ∃ F3 as', Ext F1 H1 F3 H3 ∧ H3 A = some (.lst (as'.map V.ref)) ∧ F3 A = none ∧ Paired (Own1 K c.cls F3 H3) as' (ess.take (k + 1)) ∧ as'.Nodup ∧ A ∉ as' ∧ (∀ a ∈ as', H1 a = none) ∧ as'.length = k + 1,
      fun H3 z => ⟨ds.length - (k + 1), by omega, rfl, hlt, z⟩, fun x H3 y => ?_⟩
    obtain ⟨F3, e3, r3⟩ := i3 x H3 ds[k] (List.getElem?_eq_getElem hlt) y
    have hk : k < ess.length := by omega
    obtain ⟨es, he, hdk⟩ := paired_get hd (List.getElem?_eq_getElem hlt)
    have e13 := e2.trans e3
    have S3 := (S1.ext e13).wipe [i]
    have hlw : i < (wipeR ρ [i]).length := by
      show i < (ρ.set i none).length
      rw [List.length_set]
      exact hl
    refine fc_name (K := K) (c := c.noW) (own := own) (i := i) (vs := [i]) hio (by simp) x ds[k] (L2.wipe σ [i]) H3 F3 (wipeR ρ [i]) _ S3 r3 ?_
    intro σ4 w4 S4
    refine ⟨w4.trans (wipe_wipe σ [i]), ?_⟩
    refine yes_rd (ifT ?_)
    obtain ⟨v, hv, rv⟩ := S4.fro i ds[k] (fun z => by rw [List.contains_iff_mem.mpr z] at hio; cases hio) (by rw [List.getElem?_set]; simp [hl])
    obtain ⟨b, ys, rfl, hs, ry⟩ : ∃ b ys, v = .ref b ∧ (SqL K H3 b ys ∨ SqT K H3 b ys) ∧ RepL K c.cls F3 ys es := by
      rcases hdk with z | z <;> rw [z] at rv
      · cases rv with
        | ls h r => exact ⟨_, _, rfl, .inl (SqL.of (e13.s _ _ h)), r⟩
      · cases rv with
        | tp h r => exact ⟨_, _, rfl, .inr (Same.tup e13.s h), r⟩
    refine ⟨_, hv, b, ys, rfl, hs, fun l nl => ?_⟩
    have hD3 := e3.h _ _ hD
    have nA : A ≠ l := ne_of_none hD3 nl
    have f3A : F3 A = none := e3.stays hD hF
    have l1 : H1 l = none := e13.h.free nl
    refine ⟨as.map V.ref, by rw [upd_ne nA]; exact hD3, by rw [List.length_map, hlen]; exact lt_lim (lim_gt (by omega)), F3, as ++ [l], (e13.updNew l1 (e13.s.free nl)).updNew hA f3A, by rw [upd_same, List.map_append]; rfl, f3A, ?_, ?_, ?_, ?_, by rw [List.length_append, hlen]; rfl⟩
    · have ht : ess.take (k + 1) = ess.take k ++ [es] := by
        rw [List.take_add_one, he]
        rfl
      rw [ht]
      refine Paired.snoc (paired_imp hp fun b' es' hm o => ?_) ⟨ys, by rw [upd_ne nA.symm]; exact upd_same, e13.s.free nl, ry⟩
      have o3 := o.ext e3
      refine (o3.upd (o3.ne nl)).upd fun z => ?_
      subst z
      exact hna hm
    · rw [List.nodup_append]
      refine ⟨hnd, by simp, fun x hx y hy => ?_⟩
      rw [List.mem_singleton.mp hy]
      intro z
      subst z
      obtain ⟨j, hj⟩ := List.getElem?_of_mem hx
      obtain ⟨_, _, o⟩ := paired_get hp hj
      exact (o.ext e3).ne nl rfl
    · intro z
      rcases List.mem_append.mp z with z | z
      · exact hna z
      · exact nA (List.mem_singleton.mp z)
    · intro b' hb
      rcases List.mem_append.mp hb with z | z
      · exact hnew b' z
      · rw [List.mem_singleton.mp z]; exact l1
  · have : k = ds.length := by omega
    subst this
    refine .inl ⟨i2 rfl, q A as H2 F2 (e1.trans e2) (e1.h.free hA) hF (fun b hb => e1.h.free (hnew b hb)) hnd hna hD ?_⟩
    rw [hel, List.take_length] at hp
    exact hp
end
/-! ### data that may be compared -/
def Nice (n : Nat) (d : PyData) : Prop := plainD d = true ∧ d.canLay0 = true ∧ d.depth ≤ n
theorem Nice.up {n m : Nat} {d : PyData} (h : Nice n d) (hm : n ≤ m) : Nice m d := ⟨h.1, h.2.1, Nat.le_trans h.2.2 hm⟩
theorem nice_int (i : Int) : Nice 0 (.int i) := ⟨rfl, by simp [PyData.canLay0], by simp [PyData.depth]⟩
theorem nice_str {x : Str} (h : PyData.canLay0 (.str x) = true) : Nice 0 (.str x) := ⟨rfl, h, by simp [PyData.depth]⟩
theorem nice_all {n : Nat} : ∀ {ds : List PyData}, (∀ d ∈ ds, Nice n d) → plainAll ds = true ∧ PyData.canLayAll0 ds = true ∧ PyData.depthAll ds ≤ n
  | [], _ => ⟨rfl, by simp [PyData.canLayAll0], by simp [PyData.depthAll]⟩
  | d :: ds, h => by
    obtain ⟨h1, h2, h3⟩ := h d List.mem_cons_self
    obtain ⟨k1, k2, k3⟩ := nice_all fun e he => h e (List.mem_cons_of_mem _ he)
    refine ⟨?_, ?_, ?_⟩
    · unfold plainAll; rw [h1, k1]; rfl
    · unfold PyData.canLayAll0; rw [h2, k2]; rfl
    · unfold PyData.depthAll; exact Nat.max_le.mpr ⟨h3, k3⟩
theorem nice_list {n : Nat} {ds : List PyData} (h : ∀ d ∈ ds, Nice n d) : Nice (n + 1) (.list ds) := by
  obtain ⟨h1, h2, h3⟩ := nice_all h
  refine ⟨?_, ?_, ?_⟩
  · unfold plainD; exact h1
  · unfold PyData.canLay0; exact h2
  · unfold PyData.depth; exact Nat.succ_le_succ h3
theorem nice_tup {n : Nat} {ds : List PyData} (h : ∀ d ∈ ds, Nice n d) : Nice (n + 1) (.tuple ds) := by
  obtain ⟨h1, h2, h3⟩ := nice_all h
  refine ⟨?_, ?_, ?_⟩
  · unfold plainD; exact h1
  · unfold PyData.canLay0; exact h2
  · unfold PyData.depth; exact Nat.succ_le_succ h3
theorem nice_mapI {ks : List Int} : ∀ d ∈ ks.map PyData.int, Nice 0 d := fun d h => by
  obtain ⟨k, _, rfl⟩ := List.mem_map.mp h
  exact nice_int k
theorem Nice.okEq {n : Nat} {d : PyData} (h : Nice n d) (hn : n ≤ 64) : okEq d = true := by
  unfold Fn.okEq SeqAt.shaped
  rw [h.1, h.2.1, decide_eq_true (Nat.le_trans h.2.2 hn)]
  rfl
theorem dEq_self {n : Nat} {d : PyData} (h : Nice n d) (hn : n ≤ 64) : dEq d d = .ok (.bool true) := by
  unfold dEq
  rw [h.okEq hn, SeqAt.eqv_refl d h.2.1, Bool.and_self, Bool.or_true, if_pos rfl]
  try rfl
theorem dNe_self {n : Nat} {d : PyData} (h : Nice n d) (hn : n ≤ 64) : dNe d d = .ok (.bool false) := by
  unfold dNe
  rw [h.okEq hn, SeqAt.eqv_refl d h.2.1, Bool.and_self, Bool.or_true, if_pos rfl]
  try rfl
/-! ### another view of a state -/
section
variable {K : PySem.W.Frag} {cls : Nat → Addr} {B : Hp × Hp} {F H F' H' : Hp} {σ : L2.St} {ρ ρ' : Rho} {a : Addr} {o : HO}
theorem Sim.stray (S : Sim K cls B [] σ H F ρ) (h1 : F a = none) (h2 : B.1 a = none) : Sim K cls B [] σ (L2.upd H a o) F ρ where
  b := S.b.updNew h2 h1
  len := S.len
  fro := S.fro
  ow := fun i d hi => absurd hi List.not_mem_nil
  sep := fun i j d e a hi => absurd hi List.not_mem_nil
theorem Sim.top {H0 : Hp} (S : Sim K cls (H0, H0) [] σ H F ρ) (hl : ρ'.length = ρ.length) (h : ∀ (i : Nat) (d : PyData), ρ'[i]? = some (some d) → ∃ v : V, σ[i]? = some (some v) ∧ Rep K cls H v d) : Sim K cls (H0, H0) [] σ H H ρ' where
  b := ⟨S.b.h, S.b.h, Same.refl _, fun b u e => by
    cases q : H0 b with
    | none => exact .inr q
    | some u' =>
      have := S.b.h b u' q
      rw [e] at this
      cases this
      exact .inl q⟩
  len := by rw [S.len, hl]
  fro := fun i d _ e => h i d e
  ow := fun i d hi => absurd hi List.not_mem_nil
  sep := fun i j d e a hi => absurd hi List.not_mem_nil
theorem Sim.grown (S : Sim K cls B [] σ H F ρ) (h : Same H H') : Sim K cls B [] σ H' F ρ := S.ext ⟨Same.refl _, h, S.b.s.trans h, fun _ _ z => .inl z⟩
theorem Sim.setN (S : Sim K cls B [] σ H F ρ) (i : Nat) {v : V} {d : PyData} (r : Rep K cls F v d) : Sim K cls B [] (σ.set i (some v)) H F (ρ.set i (some d)) := S.set i r
end
theorem nx_rd {f : L2.St → Hp → Prop} {r : VK} {b k : L2.St → Hp → Prop} {σ : L2.St} {H : Hp} (h : f σ H) : Ends.nx ⟨f, r, b, k⟩ σ H := h
theorem seq_rd {t u : TS} {D : Ends} {σ : L2.St} {H : Hp} (h : t { D with nx := u D } σ H) : tSeq t u D σ H := h
theorem asg_rd {t : TE} {i : Nat} {D : Ends} {σ : L2.St} {H : Hp} (h : t σ H fun x H1 => D.nx (σ.set i (some x)) H1) : tAsg t (gName i) D σ H := h
theorem next_rd {D : Ends} {σ : L2.St} {H : Hp} (h : D.nx σ H) : tNext D σ H := h
theorem if_rd {c : TT} {t u : TS} {D : Ends} {σ : L2.St} {H : Hp} (h : c σ H fun b H1 => if b = true then t D σ H1 else u D σ H1) : tIfS c t u D σ H := h
theorem forL_rd {K : PySem.W.Frag} {t : TE} {g : TG} {tb : TS} {D : Ends} {σ : L2.St} {H : Hp} (h : tFor (iList K t) g tb D σ H) : tFor (iAny K t) g tb D σ H := .inl h
end Fn

set_option Elab.async false
set_option linter.all false
set_option maxRecDepth 100000
/-! zip over a tuple and a list (and any other two of these). b: a list, else a tuple. -/
namespace FnZ
open PySem PySem.Spec PyProof.Rows L2
def Sq (b : Bool) (K : PySem.W.Frag) (H : Hp) (a : Addr) (xs : List V) : Prop := match b with
  | true => SqL K H a xs
  | false => SqT K H a xs
def Its (b : Bool) (h : Heap) (a : Addr) (its : Array Value) : Prop := match b with
  | true => h.IsList a its
  | false => h.IsTuple a its
def At (b : Bool) (h : Heap) (it a : Addr) (i : Nat) : Prop := match b with
  | true => h.IsListIter it a i
  | false => h.IsTupleIter it a i
def objI (b : Bool) (a : Addr) : Obj := match b with
  | true => { cls := .type "list_iterator", data := .fields #[.ref a, .int 0 0] }
  | false => { cls := .type "tuple_iterator", data := .fields #[.ref a, .int 0 0] }
theorem begins (b : Bool) (a : Addr) (its : Array Value) : Begins (.ref a) (objI b a) fun h => Its b h a its := by
  cases b with
  | true => exact begins_list a its
  | false => exact begins_tuple a its
theorem draws (b : Bool) {P : Program} {w : World} {A : Around} (hh : A.handled = none) (it a : Addr) (hne : a ≠ it) (its : Array Value) :
    Draws P w A it [it, a] its.size (fun i v => its[i]? = some v) (fun i h => At b h it a i ∧ Its b h a its) := by
  cases b with
  | true => exact Draws.list hh it a hne its
  | false => exact Draws.tuple hh it a hne its
theorem at_new (b : Bool) {h : Heap} {it a : Addr} (e : h.get? it = some (objI b a)) : At b h it a 0 := by
  cases b with
  | true => exact ⟨_, e, rfl, rfl⟩
  | false => exact ⟨_, e, rfl, rfl⟩
theorem At.there {b : Bool} {h : Heap} {it a : Addr} {i : Nat} (t : At b h it a i) : ∃ o, h.get? it = some o ∧ ∀ v, o.data ≠ .cell v := by
  cases b with
  | true =>
    obtain ⟨o, e, _, d⟩ := t
    exact ⟨o, e, fun v q => by rw [d] at q; cases q⟩
  | false =>
    obtain ⟨o, e, _, d⟩ := t
    exact ⟨o, e, fun v q => by rw [d] at q; cases q⟩
theorem At.moved {b : Bool} {h h' : Heap} {it a : Addr} {i : Nat} (t : At b h it a i) (k : ∀ o, h.get? it = some o → h'.get? it = some o) : At b h' it a i := by
  cases b with
  | true => exact Heap.IsListIter.at t k
  | false => exact Heap.IsTupleIter.at t k
section
variable {X : Cx} {pins : List (Addr × Obj)} {s : Shared} {σ : L2.St} {H : Hp} {a : Addr} {xs ys : List V}
theorem vals (b : Bool) (I : Inv X pins σ H s) (h : Sq b X.K H a xs) : ∃ its : List Value, Vals xs its ∧ Its b s.heap a its.toArray := by
  cases b with
  | true =>
    obtain ⟨its, rv, p, _⟩ := I.list h
    exact ⟨its, rv, p.isList⟩
  | false =>
    obtain ⟨its, rv, p, _⟩ := I.tuple h
    exact ⟨its, rv, p⟩
theorem same (b : Bool) (I : Inv X pins σ H s) (h : Sq b X.K H a xs) (h' : Sq b X.K H a ys) : xs = ys := by
  cases b with
  | true => exact I.list_inj h h'
  | false => exact I.tuple_inj h h'
theorem Its.lt {b : Bool} {h : Heap} {its : Array Value} (p : Its b h a its) : a < h.objs.size := by
  cases b with
  | true =>
    obtain ⟨o, e, _⟩ := p
    exact Heap.lt_size e
  | false =>
    obtain ⟨o, e, _⟩ := p
    exact Heap.lt_size e
end
/-- the sequences at a and c as they stand at each turn, in new pairs -/
def Itm (K : PySem.W.Frag) (b1 b2 : Bool) (a c : Addr) : It where
  go := fun i H => ∃ (xs ys : List V) (x y : V), Sq b1 K H a xs ∧ Sq b2 K H c ys ∧ xs[i]? = some x ∧ ys[i]? = some y
  yld := fun i H v H' => ∃ T x y, v = .ref T ∧ H T = none ∧ H' = upd H T (.tup [x, y]) ∧ (∀ xs, Sq b1 K H a xs → xs[i]? = some x) ∧ ∀ ys, Sq b2 K H c ys → ys[i]? = some y
  stop := fun i H => ∃ xs ys : List V, Sq b1 K H a xs ∧ Sq b2 K H c ys ∧ i ≤ xs.length ∧ i ≤ ys.length ∧ (xs.length = i ∨ ys.length = i)
theorem apart {z TI TO i1 i2 a c : Addr} (D : ZipApart z TI TO i1 i2 a c) : ZipSep2 z TI TO i1 i2 [i1, a] [i2, c] where
  TIz := D.TIz
  TOz := D.TOz
  TITO := D.TITO
  TIi1 := D.TIi1
  mem1 := List.mem_cons_self
  zf1 := by simp [D.i1z.symm, D.l1z.symm]
  Tf1 := by simp [D.TOi1, D.l1TO.symm]
  TIi2 := D.TIi2
  mem2 := List.mem_cons_self
  zf2 := by simp [D.i2z.symm, D.l2z.symm]
  Tf2 := by simp [D.TOi2, D.l2TO.symm]
  sep1_2 := by simp [D.i12, D.l2i1.symm]
  sep2_1 := by simp [D.i12.symm, D.l1i2.symm]
theorem turnM {P : Program} {w : World} {K : PySem.W.Frag} (b1 b2 : Bool) {elts : List Expr} {kk : Nat} {tpos : Pos} {a c z TI TO i1 i2 : Addr} (D : ZipApart z TI TO i1 i2 a c) :
    Turn P w K (.Tuple elts kk tpos) (Itm K b1 b2 a c) [z, TI, TO, i1, i2] z (fun i h => IsZip h z TI TO .none ∧ IsPair h TI (.ref i1) (.ref i2) ∧ (∃ x y, IsPair h TO x y) ∧ At b1 h i1 a i ∧ At b2 h i2 c i) where
  mem := List.mem_cons_self
  obj := fun i h st q hq => by
    obtain ⟨hz, hTI, ⟨x, y, hTO⟩, t1, t2⟩ := st
    simp only [List.mem_cons, List.not_mem_nil, or_false] at hq
    rcases hq with rfl | rfl | rfl | rfl | rfl
    · exact ⟨_, hz, fun v => nofun⟩
    · exact ⟨_, hTI, fun v => nofun⟩
    · exact ⟨_, hTO, fun v => nofun⟩
    · exact t1.there
    · exact t2.there
  keep := fun i h h' st k => by
    obtain ⟨hz, hTI, ⟨x, y, hTO⟩, t1, t2⟩ := st
    refine ⟨k z (by simp) _ hz, k TI (by simp) _ hTI, ⟨x, y, k TO (by simp) _ hTO⟩, t1.moved (k i1 (by simp)), t2.moved (k i2 (by simp))⟩
  item := by
    intro X hP hw hK hc i pins s σ H E I hf st hg
    subst hP hw hK
    obtain ⟨hz, hTI, ⟨x0, y0, hTO⟩, t1, t2⟩ := st
    obtain ⟨xs, ys, x, y, sx, sy, hx, hy⟩ := hg
    obtain ⟨us, rx, px⟩ := vals b1 I sx
    obtain ⟨vs, ry, py⟩ := vals b2 I sy
    obtain ⟨u, hu, ru⟩ := rx.get hx
    obtain ⟨v, hv, rv⟩ := ry.get hy
    have hd := I.ok.hd hc
    have old : ∀ q ∈ [z, TI, TO, i1, i2], q < s.heap.objs.size := fun q hq => by
      simp only [List.mem_cons, List.not_mem_nil, or_false] at hq
      rcases hq with rfl | rfl | rfl | rfl | rfl
      · exact Heap.lt_size hz
      · exact Heap.lt_size hTI
      · exact Heap.lt_size hTO
      · exact Heap.lt_size t1.there.choose_spec.1
      · exact Heap.lt_size t2.there.choose_spec.1
    have zs : s.heap.objs.size ≠ z := Nat.ne_of_gt (old z (by simp))
    have lu : i < us.toArray.size := by
      rw [List.size_toArray]
      exact (List.getElem?_eq_some_iff.mp hu).1
    have lv : i < vs.toArray.size := by
      rw [List.size_toArray]
      exact (List.getElem?_eq_some_iff.mp hv).1
    refine wpAny_pyNext_zipD2_item (apart D) (draws b1 (show X.A.in1.handled = none from hd) i1 a D.l1i1 us.toArray) (draws b2 (show X.A.in1.handled = none from hd) i2 c D.l2i2 vs.toArray) hz hTI hTO ⟨t1, px⟩ ⟨t2, py⟩ lu lv ?_
    intro u' v' h1 tk eu ev z1 TO1 q1 q2 T1 _ k1
    obtain rfl : u = u' := by
      have eu : us.toArray[i]? = some u' := eu
      rw [List.getElem?_toArray, hu] at eu
      exact Option.some.inj eu
    obtain rfl : v = v' := by
      have ev : vs.toArray[i]? = some v' := ev
      rw [List.getElem?_toArray, hv] at ev
      exact Option.some.inj ev
    refine ⟨_, rfl, wpAny_letOwnedTupleGo_zip (s := { s with heap := h1, toks := tk }) z1 fun h2 z2 sb => ?_⟩
    have T2 : h2.get? s.heap.objs.size = some { cls := .type "tuple", data := .seq #[u, v] } := (sb.2 _ zs).trans T1
    have fresh : ObjOk X.prog X.w (upd H s.heap.objs.size (.tup [x, y])) h2 s.heap.objs.size (.tup [x, y]) := ⟨show 2 ≤ sizeLine by decide, [u, v], .cons ru (.cons rv .nil), _, T2, rfl, _, rfl⟩
    have I2 : Inv X pins σ (upd H s.heap.objs.size (.tup [x, y])) { s with heap := h2, toks := tk } := I.turnedNew (t' := tk) (ch := [z, TI, TO, i1, i2]) (fun q o hq e => by
      simp only [List.mem_cons, List.not_mem_nil, or_false, not_or] at hq
      obtain ⟨n1, n2, n3, n4, n5⟩ := hq
      exact (sb.2 q n1).trans (k1 q o n1 n3 n4 n5 e)) hf (Nat.le_refl _) fresh
    refine ⟨V.ref s.heap.objs.size, _, I2, rfl, ⟨_, x, y, rfl, I.hok.fresh (Nat.le_refl _), rfl, fun l hl => ?_, fun l hl => ?_⟩, ⟨z2, ?_, ⟨u, v, ?_⟩, ?_, ?_⟩, fun q hq => ?_⟩
    · rw [same b1 I hl sx]; exact hx
    · rw [same b2 I hl sy]; exact hy
    · exact (sb.2 TI D.TIz).trans (k1 TI _ D.TIz D.TITO D.TIi1 D.TIi2 hTI)
    · exact (sb.2 TO D.TOz).trans TO1
    · exact q1.1.moved fun o e => (sb.2 i1 D.i1z).trans e
    · exact q2.1.moved fun o e => (sb.2 i2 D.i2z).trans e
    · rw [upd_ne (Nat.ne_of_lt (old q hq))]
      exact (hf q hq).1
  done := by
    intro X hP hw hK hc i pins s σ H E I hf st hg
    subst hP hw hK
    obtain ⟨hz, hTI, ⟨x0, y0, hTO⟩, t1, t2⟩ := st
    obtain ⟨xs, ys, sx, sy, l1, l2, hend⟩ := hg
    obtain ⟨us, rx, px⟩ := vals b1 I sx
    obtain ⟨vs, ry, py⟩ := vals b2 I sy
    have hd := I.ok.hd hc
    have n1 := rx.length
    have n2 := ry.length
    refine wpAny_pyNext_zipD2_end (apart D) (draws b1 (show X.A.in1.handled = none from hd) i1 a D.l1i1 us.toArray) (draws b2 (show X.A.in1.handled = none from hd) i2 c D.l2i2 vs.toArray) hz hTI hTO ⟨t1, px⟩ ⟨t2, py⟩ (by simp; omega) (by simp; omega) (by simp; omega) ?_
    intro h1 tk k1
    refine ⟨rfl, I.turnedL (t' := tk) (ch := [z, TI, TO, i1, i2]) (fun q o hq e => ?_) hf⟩
    simp only [List.mem_cons, List.not_mem_nil, or_false, not_or] at hq
    obtain ⟨n1, n2, n3, n4, n5⟩ := hq
    exact k1 q o n1 n3 n4 n5 e
  self := fun A i s Q E st h => wpAny_pyIter_zip st.1 h
/-- zip(e, e2): each a list or a tuple -/
def iZipM (K : PySem.W.Frag) (ta : TA) : TI := fun σ H R => ta σ H fun vs H1 => ∃ b1 b2 a c xs ys, vs = [.ref a, .ref c] ∧ Sq b1 K H1 a xs ∧ Sq b2 K H1 c ys ∧ R (Itm K b1 b2 a c) H1
theorem pi_zipM {X : Cx} {e e2 : Expr} {ta : TA} {p pos tpos : Pos} {elts : List Expr} {kk : Nat} (hg : Gl X "zip") (hm : X.mg "zip" = none) (ha : PA X [e, e2] ta)
    (h1 : starEach [e, e2] X.env = (false, eval e X.env) :: starEach [e2] X.env := by rfl) (h2 : (backTo pos (starEach [e2] X.env)).any (·.1) = false := by rfl) :
    PI X (.Tuple elts kk tpos) (.Call (.Name "zip" p) [e, e2] [] pos) (iZipM X.K ta) where
  run := fun pins s σ H R I h => by
    refine Call_ (ld_blt I hg hm PyProof.Rows.boot_zip (PyProof.Rows.callWith_type1 (thn (ha.run pos pins s σ H _ I h) fun us s1 hq => ?_) h1 h2))
    obtain ⟨vs, H1, I1, r1, b1, b2, a, c, xs, ys, rfl, sx, sy, q⟩ := hq
    match us, r1 with
    | [_, _], .cons r (.cons r' .nil) =>
      cases r
      cases r'
      obtain ⟨us, rx, px⟩ := vals b1 I1 sx
      obtain ⟨vs, ry, py⟩ := vals b2 I1 sy
      refine zip_begins2 (begins b1 a us.toArray) (begins b2 c vs.toArray) px py fun h' z1 TI1 TO1 g1 g2 hsz hk => wpAny_pyIter_zip z1 ?_
      refine ⟨s1.heap.objs.size + 4, [s1.heap.objs.size + 4, s1.heap.objs.size + 2, s1.heap.objs.size + 3, s1.heap.objs.size, s1.heap.objs.size + 1], _, _, H1, rfl, I1.kept (t' := s1.toks) hk, turnM b1 b2 (PySem.W.ktu_apart s1.heap.objs.size a c px.lt py.lt), ⟨z1, TI1, ⟨_, _, TO1⟩, at_new b1 g1, at_new b2 g2⟩, fun q hq => ?_, q⟩
      have hle : s1.heap.objs.size ≤ q := by
        simp only [List.mem_cons, List.not_mem_nil, or_false] at hq
        rcases hq with rfl | rfl | rfl | rfl | rfl
        all_goals first | exact Nat.le_refl _ | exact Nat.le_add_right _ _
      exact I1.fpOk hle (I1.hok.fresh hle)
end FnZ

set_option Elab.async false
set_option linter.all false
set_option maxRecDepth 100000
/-! zip of lists and tuples, by the data. -/
namespace Fn
open PySem PySem.Spec L2
section
variable {K : PySem.W.Frag} {c : Ct} {own : List Nat} {F H : Hp}
def zipJ : List PyData → O (List PyData)
  | [.list ds, .list es] => .ok (zipD ds es)
  | [.tuple ds, .list es] => .ok (zipD ds es)
  | [.list ds, .tuple es] => .ok (zipD ds es)
  | [.tuple ds, .tuple es] => .ok (zipD ds es)
  | _ => .bad
def gZipM (g : Rho → O (List PyData)) : Rho → O (List PyData) := fun ρ => (g ρ).bind zipJ
theorem sq_same {b : Bool} {a : Addr} {xs : List V} (s : Same F H) (h : FnZ.Sq b K F a xs) : FnZ.Sq b K H a xs := by
  cases b with
  | true => exact s.seq h
  | false => exact Same.tup s h
theorem rep_sq {v : V} {d : PyData} {ds : List PyData} (r : Rep K c.cls F v d) (h : d = .list ds ∨ d = .tuple ds) : ∃ b a xs, v = .ref a ∧ FnZ.Sq b K F a xs ∧ RepL K c.cls F xs ds := by
  rcases h with rfl | rfl
  · cases r with
    | ls h r => exact ⟨true, _, _, rfl, SqL.of h, r⟩
  · cases r with
    | tp h r => exact ⟨false, _, _, rfl, h, r⟩
theorem fi_zipM {t : TA} {g : Rho → O (List PyData)} (h : FA K c own true t g) : FI K c own (FnZ.iZipM K t) (gZipM g) := fun σ H F ρ R S q => by
  refine h σ H F ρ _ S (OPost.imp (fun d q v H1 F1 e r => ?_) (fun _ q => q) (OPost.bind q))
  have key : ∀ d1 d2 ds es, (d1 = PyData.list ds ∨ d1 = .tuple ds) → (d2 = PyData.list es ∨ d2 = .tuple es) → RepL K c.cls F1 v [d1, d2] →
      (∀ J H' F', Ext F H F' H' → ItOk K c J F' (zipD ds es) → R J H') → ∃ b1 b2 a c xs ys, v = [.ref a, .ref c] ∧ FnZ.Sq b1 K H1 a xs ∧ FnZ.Sq b2 K H1 c ys ∧ R (FnZ.Itm K b1 b2 a c) H1 := fun d1 d2 ds es k1 k2 r q => by
    cases r with
    | cons ra t0 =>
      cases t0 with
      | cons rb t1 =>
        cases t1
        obtain ⟨b1, a1, xs, rfl, h1, r1⟩ := rep_sq ra k1
        obtain ⟨b2, a2, ys, rfl, h2, r2⟩ := rep_sq rb k2
        refine ⟨b1, b2, a1, a2, xs, ys, rfl, sq_same e.s h1, sq_same e.s h2, q _ _ _ e fun F2 H2 s1 s2 i => ?_⟩
        have q1 := sq_same s2 (sq_same s1 h1)
        have q2 := sq_same s2 (sq_same s1 h2)
        have le : (zipD ds es).length = min xs.length ys.length := by
          unfold zipD
          rw [List.length_zipWith, r1.length, r2.length]
        refine ⟨fun hi => ?_, fun hi => ⟨xs, ys, q1, q2, by omega, by omega, by omega⟩, fun x H' d hd y => ?_⟩
        · rw [le] at hi
          have hx : i < xs.length := by omega
          have hy : i < ys.length := by omega
          exact ⟨xs, ys, xs[i], ys[i], q1, q2, List.getElem?_eq_getElem hx, List.getElem?_eq_getElem hy⟩
        · obtain ⟨T, u, u', rfl, hT, rfl, y1, y2⟩ := y
          unfold zipD at hd
          rw [List.getElem?_zipWith] at hd
          cases hq : ds[i]? with
          | none => rw [hq] at hd; cases hd
          | some d0 =>
            cases hq' : es[i]? with
            | none => rw [hq, hq'] at hd; cases hd
            | some e0 =>
              rw [hq, hq'] at hd
              cases hd
              obtain ⟨w, w1, w2⟩ := r1.get hq
              obtain ⟨z, z1, z2⟩ := r2.get hq'
              have e1 := y1 xs q1
              rw [w1] at e1
              cases e1
              have e2 := y2 ys q2
              rw [z1] at e2
              cases e2
              exact ⟨_, Ext.new s2 hT, .tp (SqT.of upd_same) (.cons ((w2.mono s1).mono (same_upd (s2.free hT))) (.cons ((z2.mono s1).mono (same_upd (s2.free hT))) .nil))⟩
  unfold zipJ at q
  split at q
  · exact key _ _ _ _ (.inl rfl) (.inl rfl) r q
  · exact key _ _ _ _ (.inr rfl) (.inl rfl) r q
  · exact key _ _ _ _ (.inl rfl) (.inr rfl) r q
  · exact key _ _ _ _ (.inr rfl) (.inr rfl) r q
  · exact q.elim
end
section
variable (ρ : Rho) (gs : Rho → O (List PyData)) (ds es : List PyData)
@[simp] theorem gZipM_ap : gZipM gs ρ = (gs ρ).bind zipJ := rfl
@[simp] theorem zipJ_ll : zipJ [.list ds, .list es] = .ok (zipD ds es) := rfl
@[simp] theorem zipJ_tl : zipJ [.tuple ds, .list es] = .ok (zipD ds es) := rfl
@[simp] theorem zipJ_lt : zipJ [.list ds, .tuple es] = .ok (zipD ds es) := rfl
@[simp] theorem zipJ_tt : zipJ [.tuple ds, .tuple es] = .ok (zipD ds es) := rfl
end
end Fn

set_option Elab.async false
set_option linter.all false
set_option maxRecDepth 100000
namespace Fn
open PySem PySem.Spec L2
/-! ### a try with a name -/
theorem ifF {A B : Prop} (h : B) : if false = true then A else B := by
  rw [if_neg Bool.false_ne_true]
  exact h
theorem pss_guard {X : Cx} {L : List Stmt} {p : Prop} {t : TS} (h : p → PSs X L t) : PSs X L (fun D σ H => p ∧ t D σ H) := ⟨fun pins s σ H D I q => (h q.1).run pins s σ H D I q.2⟩
theorem zc_of {cls c : Value} {d : Option Addr} {oe : Obj} (h : cls = c ∧ d = none) (hz : Zc cls d oe) : Zc c none oe := by
  obtain ⟨rfl, rfl⟩ := h
  exact hz
def tIsE (K : PySem.W.Frag) (D a : Addr) (i : Nat) (v : V) : TE := tCB (rIsE K D a) (tCons (tVar i) (tCons (tC v) tNil))
def tIsT (K : PySem.W.Frag) (D a : Addr) (i : Nat) (v : V) : TT := fun σ H Q => tIsE K D a i v σ H fun x H' => ∃ k, TruV K x H' k ∧ Q k H'
section
variable (X : Cx) (a : Addr) (pn : List (Addr × Obj)) {D : Addr} {oe : Obj} {i : Nat} {v : V} {n c : Str} {p p1 p2 pos : Pos}
theorem pe_isE (C : ExcC X.K D) (hz : Zc (.ref D) none oe) (hf : ∃ vs, oe.data = .fields vs) (hm : X.mg "isinstance" = none) (hg : Gl (X.suite a ((a, oe) :: pn)) "isinstance") (h1 : PE (X.suite a ((a, oe) :: pn)) (.Name n p1) (tVar i)) (h2 : PE (X.suite a ((a, oe) :: pn)) (.Name c p2) (tC v)) :
    PE (X.suite a ((a, oe) :: pn)) (.Call (.Name "isinstance" p) [.Name n p1, .Name c p2] [] pos) (tIsE X.K D a i v) :=
  pe_callB (X := X.suite a ((a, oe) :: pn)) (call_isE C hz hf) hg hm bt_isinstance (pa_cons h1 (pa_cons h2 pa_nil))
theorem pt_isE (C : ExcC X.K D) (hz : Zc (.ref D) none oe) (hf : ∃ vs, oe.data = .fields vs) (hm : X.mg "isinstance" = none) (hg : Gl (X.suite a ((a, oe) :: pn)) "isinstance") (h1 : PE (X.suite a ((a, oe) :: pn)) (.Name n p1) (tVar i)) (h2 : PE (X.suite a ((a, oe) :: pn)) (.Name c p2) (tC v)) :
    PT (X.suite a ((a, oe) :: pn)) (.Call (.Name "isinstance" p) [.Name n p1, .Name c p2] [] pos) (tIsT X.K D a i v) := pt_truth (pe_isE X a pn C hz hf hm hg h1 h2) (by intro _; rfl)
end
/-- the reading -/
theorem isE_rd {K : PySem.W.Frag} {D a : Addr} {i : Nat} {v : V} {cv : Value} {b : Bool} {σ : L2.St} {H : Hp} {Q : VK} (h : σ[i]? = some (some (.ref a))) (hv : ∀ u, RelV v u → u = cv) (k : PySem.W.kitOne K (.ref D) cv = some b) (q : Q (.bl b) H) : tIsE K D a i v σ H Q :=
  ⟨_, h, v, cv, b, rfl, hv, k, q⟩
theorem isT_rd {K : PySem.W.Frag} {D a : Addr} {i : Nat} {v : V} {cv : Value} {b : Bool} {σ : L2.St} {H : Hp} {Q : Bool → Hp → Prop} (h : σ[i]? = some (some (.ref a))) (hv : ∀ u, RelV v u → u = cv) (k : PySem.W.kitOne K (.ref D) cv = some b) (q : Q b H) : tIsT K D a i v σ H Q :=
  isE_rd h hv k ⟨b, rfl, q⟩
/-- whatever the frame holds -/
def anyW (n : Nat) (W : WX) : XK := fun cl d H => ∀ σ : L2.St, σ.length = n → W cl d σ H
theorem passN {X : Cx} {W : WX} {n : Nat} (tk : Takes X W) (hn : X.N.length = n) : Passes (L2.CX X.prog X.w) X (anyW n W) := fun _ σ _ _ e s' I c => tk e s' (XE.of_call I (fun cls d H' h => h σ (by rw [I.len, hn])) c)
theorem pe_makeT (X : Cx) (pn : List (Addr × Obj)) (xe : Value → Shared → Prop) {cls xc : Nat → Addr} {k j : Nat} {fp : List PyData → O PyData} {E : XK} {p pos : Pos} {e : Expr} {es : List Expr} {t : TA} (o : MkAt X.prog X.w X.K X.mg X.base cls xc k fp) (hr : Room j X.A) (hk : k + 1 ≤ j) (hg : Gl (X.tr pn xe) "Problem")
    (hx : Passes (L2.CX X.prog X.w) (X.tr pn xe) E) (ha : PA (X.tr pn xe) (e :: es) t) (he : starEach (e :: es) X.env = (false, eval e X.env) :: starEach es X.env := by rfl) (hpl : (backTo pos (starEach es X.env)).any (·.1) = false := by rfl) :
    PE (X.tr pn xe) (.Call (.Name "Problem" p) (e :: es) [] pos) (tMake (cls 0) (spI X.K cls xc fp) [] E t) := pe_makeO (X := X.tr pn xe) o hr hk hg hx ha he hpl
theorem pe_callT (X : Cx) (pn : List (Addr × Obj)) (xe : Value → Shared → Prop) {cls xc : Nat → Addr} {x : Str} {ps : List Str} {n k j : Nat} {g : List PyData → O PyData} {W : WX} {p pos : Pos} {e : Expr} {es : List Expr} {t : TA} (o : OkAt X.prog X.w X.K X.mg X.base cls xc x ps n k g) (hr : Room j X.A) (hk : k ≤ j) (hg : Gl (X.tr pn xe) x) (tk : Takes (X.tr pn xe) W) (ha : PA (X.tr pn xe) (e :: es) t) (hdb : (x == ("__debug__" : Str)) = false := by decide)
    (he : starEach (e :: es) X.env = (false, eval e X.env) :: starEach es X.env := by rfl) (hpl : (backTo pos (starEach es X.env)).any (·.1) = false := by rfl) :
    PE (X.tr pn xe) (.Call (.Name x p) (e :: es) [] pos) (tCallS (spF X.K cls xc n g) (WE W) t) := pe_callO (X := X.tr pn xe) o hr hk hg tk ha hdb he hpl
def tTruth (K : PySem.W.Frag) (t : TE) : TT := fun σ H Q => t σ H fun x H' => ∃ k, TruV K x H' k ∧ Q k H'
theorem pt_truthT (X : Cx) (pn : List (Addr × Obj)) (xe : Value → Shared → Prop) {e : Expr} {t : TE} (h : PE (X.tr pn xe) e t) (he : ∀ whole, isTrue e (X.tr pn xe).env whole = (do let v ← whole; standAt e.pos; holding [v] (truthy v))) : PT (X.tr pn xe) e (tTruth X.K t) := pt_truth h he
theorem kit_own {K : PySem.W.Frag} {t c : Addr} {b : Bool} (r : PySem.W.subIn K (.ref t) (.ref t) = some true) (hc : PySem.W.isClsIn K c = true) (ht : PySem.W.typeIn K (.ref c) = some (.type "type")) (hs : PySem.W.subIn K (.ref t) (.ref c) = some b) : PySem.W.kitOne K (.ref t) (.ref c) = some b := by
  by_cases e : t = c
  · subst e
    rw [r] at hs
    cases hs
    unfold PySem.W.kitOne
    rw [if_pos (beq_self_eq_true _)]
  · unfold PySem.W.kitOne
    rw [if_neg (fun z => e (Value.ref.inj (beq_iff_eq.mp z)))]
    have hc : (PySem.W.clsIn K c).isSome = true := hc
    show (if ((PySem.W.clsIn K c).isSome && PySem.W.typeIn K (.ref c) == some (.type "type")) = true then PySem.W.subIn K (.ref t) (.ref c) else none) = some b
    rw [hc, ht, if_pos (by rfl)]
    exact hs
theorem kit_ty2 {K : PySem.W.Frag} {t : Value} {T : String} {b : Bool} (hk : PySem.W.kitMeta T = true) (hn : t ≠ .type T) (hs : PySem.W.subIn K t (.type T) = some b) : PySem.W.kitOne K t (.type T) = some b := by
  unfold PySem.W.kitOne
  rw [if_neg (fun z => hn (beq_iff_eq.mp z))]
  show (if PySem.W.kitMeta T = true then PySem.W.subIn K t (.type T) else none) = some b
  rw [if_pos hk]
  exact hs
/-- what is said of the refusal that is waited for -/
structure RefN (K : PySem.W.Frag) (mg : Str → Option Value) (xc : Nat → Addr) (r : Nat) : Prop where
  x1 : ExcC K (xc r)
  em : PySem.W.exmOne K (.ref (xc r)) (.ref (xc r)) = some true
  k : ∀ j, j < 7 → PySem.W.kitOne K (.ref (xc r)) (.ref (xc j)) = some (j == 0 || j == r)
  kV : PySem.W.kitOne K (.ref (xc r)) (.type "ValueError") = some true
  nV : mg "ValueError" = none
/-- a law: true at every script -/
def spLaw (K : PySem.W.Frag) : Sp := fun vs H Q _ => ∃ (a : Addr) (ns : List Int), vs = [.ref a] ∧ SqL K H a (ns.map V.int) ∧ ns.length ≤ 63 ∧ ∀ H', Q (.bl true) H'
theorem repL_ints {K : PySem.W.Frag} {cls : Nat → Addr} {F : Hp} : ∀ ns : List Int, RepL K cls F (ns.map V.int) (ns.map PyData.int)
  | [] => .nil
  | n :: ns => .cons (.int n) (repL_ints ns)
theorem law_fn {P : Program} {w : World} {K : PySem.W.Frag} {mg : Str → Option Value} {base : Heap} {x qual : Str} {st : Stmt} {f : Addr} {fd : FuncData} {N : List Str} {k : Nat} {cls xc : Nat → Addr} (F : Fun K x qual st f fd) (S : FnScope N ["_law_script"] (defScope st)) (g : Rho → R) (own' : List Nat)
    (h : ∀ (cdv : Value) (A : Around) (outer : List Env) (s : Shared) (H : Hp) (E : XK) (F0 : Hp), Room k (A.deeper (PyProof.Rows.envOfC qual (defScope st) s.heap.objs.size f cdv)) →
      ∃ t, PSs (cxOf (L2.CX P w) P w K mg base N qual (defScope st) f cdv A outer s H E) (defBody st) t ∧ FS K ⟨cls, xc, fun cl d _ H' => E cl d H', (H, F0), false⟩ [] [] own' t g)
    (hg : ∀ ns : List Int, ns.length ≤ 63 → fnG N.length g [D.ro (ns.map PyData.int)] = .ok (.bool true)) : FnOk P w K mg base (L2.CX P w) (k + 1) f fd ["_law_script"] (spLaw K) := by
  refine F.okX S (fun vs H Q E h => ?_) (fun cdv A outer s H vs Q E hr hsp => ?_)
  · obtain ⟨a, ns, rfl, _⟩ := h
    rfl
  · obtain ⟨a, ns, rfl, hS, hl, q⟩ := hsp
    obtain ⟨t, ht, hf⟩ := h cdv A outer s H E H hr
    have r0 : RepL K cls H [V.ref a] [D.ro (ns.map PyData.int)] := .cons (.ro hS (repL_ints ns)) .nil
    refine ⟨t, ht, hf _ _ H H (rho0 N.length [D.ro (ns.map PyData.int)]) (sim_start (Same.refl H) r0) ?_⟩
    have q1 := hg ns hl
    unfold fnG at q1
    cases e : g (rho0 N.length [D.ro (ns.map PyData.int)]) with
    | nx ρ' => rw [e] at q1; cases q1
    | rt d =>
      rw [e] at q1
      cases q1
      intro v H' F' _ r
      cases r
      exact q H'
    | ex n => rw [e] at q1; cases q1
    | bk ρ' => rw [e] at q1; cases q1
    | ct ρ' => rw [e] at q1; cases q1
    | bad => rw [e] at q1; cases q1
end Fn

set_option Elab.async false
set_option linter.all false
set_option maxRecDepth 100000
/-! Defs that tell a new list; calls that are lent lists which change later. -/
namespace Fn
open PySem PySem.Spec L2
/-! ### lent lists -/
def over (L : List Addr) (H F : Hp) : Hp := fun a => if a ∈ L then H a else F a
def less (L : List Addr) (F F' : Hp) : Hp := fun a => if a ∈ L ∧ F a = none then none else F' a
/-! data without lists and objects -/
mutual
def noL : PyData → Bool
  | .none | .bool _ | .int _ | .str _ => true
  | .tuple ds => noLs ds
  | _ => false
def noLs : List PyData → Bool
  | [] => true
  | d :: ds => noL d && noLs ds
end
section
variable {K : PySem.W.Frag} {cls : Nat → Addr} {c : Ct} {own : List Nat} {b : Bool} {F H F' H' G : Hp}
theorem tup_but {a : Addr} {xs : List V} (h : SqT K F a xs) (k : ∀ a o, F a = some o → (∀ ys, o ≠ .lst ys) → G a = some o) : SqT K G a xs := by
  rcases h with (h | ⟨o, h⟩) | h
  · exact .inl (.inl (k _ _ h fun ys => nofun))
  · exact .inl (.inr ⟨o, k _ _ h fun ys => nofun⟩)
  · exact .inr h
mutual
theorem rep_but (k : ∀ a o, F a = some o → (∀ ys, o ≠ .lst ys) → G a = some o) : ∀ {v : V} {d : PyData}, Rep K cls F v d → noL d = true → Rep K cls G v d
  | _, _, .non, _ => .non
  | _, _, .bl b, _ => .bl b
  | _, _, .int i, _ => .int i
  | _, _, .str x, _ => .str x
  | _, _, .ls _ _, p => by unfold noL at p; cases p
  | _, _, .tp h r, p => .tp (tup_but h k) (repL_but k r (by unfold noL at p; exact p))
  | _, _, .ro _ _, p => by unfold noL at p; cases p
  | _, _, .ob _ _, p => by unfold noL at p; cases p
theorem repL_but (k : ∀ a o, F a = some o → (∀ ys, o ≠ .lst ys) → G a = some o) : ∀ {vs : List V} {ds : List PyData}, RepL K cls F vs ds → noLs ds = true → RepL K cls G vs ds
  | _, _, .nil, _ => .nil
  | _, _, .cons r t, p => by
    unfold noLs at p
    rw [Bool.and_eq_true] at p
    exact .cons (rep_but k r p.1) (repL_but k t p.2)
end
theorem over_up (s : Same F H) (L : List Addr) : Same F (over L H F) := fun a o e => by
  unfold over
  split
  · exact s a o e
  · exact e
theorem over_in (s : Same F H) (L : List Addr) : Same (over L H F) H := fun a o e => by
  unfold over at e
  split at e
  · exact e
  · exact s a o e
theorem over_mono (L L' : List Addr) (h : ∀ a ∈ L, a ∈ L') (s : Same F H) : Same (over L H F) (over L' H F) := fun a o e => by
  unfold over at e ⊢
  by_cases m : a ∈ L'
  · rw [if_pos m]
    split at e
    · exact e
    · exact s a o e
  · rw [if_neg m]
    rw [if_neg fun z => m (h a z)] at e
    exact e
/-- what is lent stands, as long as it is lent -/
theorem lent (s : Same F H) : ∀ {vs : List V} {ds : List PyData}, Paired (Rep1 K c F H) vs ds → ∃ L, (∀ a ∈ L, ∃ xs, H a = some (.lst xs)) ∧ RepL K c.cls (over L H F) vs ds
  | _, _, .nil => ⟨[], fun a h => absurd h List.not_mem_nil, .nil⟩
  | _, _, .cons r t => by
    obtain ⟨L, h1, h2⟩ := lent s t
    rcases r with r | ⟨a, xs, es, rfl, rfl, h3, h4⟩
    · exact ⟨L, h1, .cons (r.mono (over_up s L)) h2⟩
    · refine ⟨a :: L, fun a' hm => ?_, .cons (.ls (xs := xs) ?_ (h4.mono (over_up s _))) (h2.mono (over_mono L (a :: L) (fun a h => List.mem_cons_of_mem _ h) s))⟩
      · rcases List.mem_cons.mp hm with rfl | z
        · exact ⟨xs, h3⟩
        · exact h1 a' z
      · unfold over
        rw [if_pos List.mem_cons_self]
        exact h3
theorem less_ext {L : List Addr} (s : Same F H) (e : Ext (over L H F) H F' H') : Ext F H (less L F F') H' where
  f := fun a o h => by
    unfold less
    rw [if_neg fun z => by rw [h] at z; cases z.2]
    exact e.f a o (over_up s L a o h)
  h := e.h
  s := fun a o h => by
    unfold less at h
    split at h
    · cases h
    · exact e.s a o h
  n := fun a o h => by
    unfold less at h
    split at h
    · cases h
    · rename_i m
      rcases e.n a o h with z | z
      · unfold over at z
        split at z
        · rename_i hm
          cases q : F a with
          | none => exact absurd ⟨hm, q⟩ m
          | some u =>
            have := s a u q
            rw [z] at this
            cases this
            exact .inl rfl
        · exact .inl z
      · exact .inr z
theorem less_but {L : List Addr} (hL : ∀ a ∈ L, ∃ xs, H a = some (.lst xs)) (e : Ext (over L H F) H F' H') : ∀ a o, F' a = some o → (∀ ys, o ≠ .lst ys) → less L F F' a = some o := fun a o h n => by
  unfold less
  rw [if_neg fun z => ?_]
  · exact h
  · obtain ⟨xs, hx⟩ := hL a z.1
    have h1 := e.s a o h
    have h2 := e.h _ _ hx
    rw [h2] at h1
    cases h1
    exact n xs rfl
/-- a call that is lent lists: what it tells has no lists in it -/
def noLO : PyData → O PyData := fun d => if noL d = true then .ok d else .bad
def gFnT (n : Nat) (f : List PyData → O PyData) (g : Rho → O (List PyData)) : Rho → O PyData := fun ρ => (g ρ).bind fun ds => if ds.length = n then (f ds).bind noLO else .bad
theorem fe_callT {n : Nat} {f : List PyData → O PyData} {t : TA} {g : Rho → O (List PyData)} {W : WX} (hW : c.W = W) (h : FA K c own false t g) : FE K c own b (tCallS (spF K c.cls c.xc n f) (WE W) t) (gFnT n f g) := FE.any fun σ H F ρ Q S q => by
  subst hW
  refine h σ H F ρ _ S (OPost.imp (fun ds q vs H1 F1 e1 r1 => ?_) (fun _ q => q) (OPost.bind q))
  split at q
  · rename_i hn
    obtain ⟨L, hL, rL⟩ := lent e1.s r1
    refine ⟨over L H1 F1, ds, over_in e1.s L, rL, hn, OPost.imp (fun d q v H2 F2 e2 r2 => ?_) (fun k q H2 s => q H2 (e1.h.trans s)) (OPost.bind q)⟩
    unfold noLO at q
    split at q
    · rename_i hf
      exact q v H2 (less L F1 F2) (e1.trans (less_ext e1.s e2)) (rep_but (less_but hL e2) r2 hf)
    · exact q.elim
  · exact q.elim
/-! ### a def that tells a new list -/
def spN (K : PySem.W.Frag) (cls xc : Nat → Addr) (n : Nat) (f : List PyData → O PyData) : Sp := fun vs H Q E => ∃ F ds, Same F H ∧ RepL K cls F vs ds ∧ ds.length = n ∧
  OPost (fun d => ∃ es, d = .list es ∧ ∀ p xs H' F', Ext F H F' H' → H' p = some (.lst xs) → F' p = none → H p = none → RepL K cls F' xs es → Q (.ref p) H') (fun k => ∀ H', Same H H' → E (.ref (xc k)) none H') (f ds)
def listO : PyData → O PyData
  | .list ds => .ok (.list ds)
  | _ => .bad
def gFnL (n : Nat) (f : List PyData → O PyData) (g : Rho → O (List PyData)) : Rho → O PyData := fun ρ => (g ρ).bind fun ds => if ds.length = n then (f ds).bind listO else .bad
theorem gFnL_list {n : Nat} {f : List PyData → O PyData} {g : Rho → O (List PyData)} : ∀ ρ d, gFnL n f g ρ = .ok d → ∃ ds, d = .list ds := fun ρ d h => by
  unfold gFnL at h
  obtain ⟨ds, _, h⟩ := O.bind_okI h
  split at h
  · obtain ⟨e, _, h⟩ := O.bind_okI h
    unfold listO at h
    split at h
    · cases h; exact ⟨_, rfl⟩
    · cases h
  · cases h
theorem fo_callN {n : Nat} {f : List PyData → O PyData} {t : TA} {g : Rho → O (List PyData)} {W : WX} (hW : c.W = W) (h : FA K c own true t g) : FO K c own (tCallS (spN K c.cls c.xc n f) (WE W) t) (gFnL n f g) := fun σ H F ρ Q S q => by
  subst hW
  refine h σ H F ρ _ S (OPost.imp (fun ds q vs H1 F1 e1 r1 => ?_) (fun _ q => q) (OPost.bind q))
  split at q
  · rename_i hn
    refine ⟨F1, ds, e1.s, r1, hn, OPost.imp (fun d q => ?_) (fun k q H2 s => q H2 (e1.h.trans s)) (OPost.bind q)⟩
    unfold listO at q
    split at q
    · obtain ⟨es, e0, q2⟩ := q
      cases e0
      exact ⟨_, rfl, fun p xs H2 F2 e2 h2 f2 hn r2 => q2 p xs H2 F2 (e1.trans e2) h2 f2 (e1.h.free hn) r2⟩
    · exact q.elim
  · exact q.elim
/-- .. lent lists; the items of what it tells have no lists in them -/
def listT : PyData → O PyData
  | .list ds => if noLs ds = true then .ok (.list ds) else .bad
  | _ => .bad
def gFnM (n : Nat) (f : List PyData → O PyData) (g : Rho → O (List PyData)) : Rho → O PyData := fun ρ => (g ρ).bind fun ds => if ds.length = n then (f ds).bind listT else .bad
theorem gFnM_list {n : Nat} {f : List PyData → O PyData} {g : Rho → O (List PyData)} : ∀ ρ d, gFnM n f g ρ = .ok d → ∃ ds, d = .list ds := fun ρ d h => by
  unfold gFnM at h
  obtain ⟨ds, _, h⟩ := O.bind_okI h
  split at h
  · obtain ⟨e, _, h⟩ := O.bind_okI h
    unfold listT at h
    split at h
    · split at h
      · cases h; exact ⟨_, rfl⟩
      · cases h
    · cases h
  · cases h
theorem fo_callM {n : Nat} {f : List PyData → O PyData} {t : TA} {g : Rho → O (List PyData)} {W : WX} (hW : c.W = W) (h : FA K c own false t g) : FO K c own (tCallS (spN K c.cls c.xc n f) (WE W) t) (gFnM n f g) := fun σ H F ρ Q S q => by
  subst hW
  refine h σ H F ρ _ S (OPost.imp (fun ds q vs H1 F1 e1 r1 => ?_) (fun _ q => q) (OPost.bind q))
  split at q
  · rename_i hn
    obtain ⟨L, hL, rL⟩ := lent e1.s r1
    refine ⟨over L H1 F1, ds, over_in e1.s L, rL, hn, OPost.imp (fun d q => ?_) (fun k q H2 s => q H2 (e1.h.trans s)) (OPost.bind q)⟩
    unfold listT at q
    split at q
    · split at q
      · rename_i hf
        obtain ⟨es, e0, q2⟩ := q
        cases e0
        refine ⟨_, rfl, fun p xs H2 F2 e2 h2 f2 hn r2 => q2 p xs H2 (less L F1 F2) (e1.trans (less_ext e1.s e2)) h2 ?_ (e1.h.free hn) (repL_but (less_but hL e2) r2 hf)⟩
        unfold less
        split
        · rfl
        · exact f2
      · exact q.elim
    · exact q.elim
  · exact q.elim
end
section
variable {P : Program} {w : World} {K : PySem.W.Frag} {mg : Str → Option Value} {base : Heap}
theorem fn_okN {x qual : Str} {st : Stmt} {f : Addr} {fd : FuncData} {N ps : List Str} {k : Nat} {cls xc : Nat → Addr} (F : Fun K x qual st f fd) (S : FnScope N ps (defScope st)) (g : Rho → R) (own' : List Nat)
    (h : ∀ (cdv : Value) (A : Around) (outer : List Env) (s : Shared) (H : Hp) (E : XK) (F0 : Hp), Room k (A.deeper (PyProof.Rows.envOfC qual (defScope st) s.heap.objs.size f cdv)) →
      ∃ t, PSs (cxOf (L2.CX P w) P w K mg base N qual (defScope st) f cdv A outer s H E) (defBody st) t ∧ FS K ⟨cls, xc, fun cl d _ H' => E cl d H', (H, F0), true⟩ [] [] own' t g) :
    FnOk P w K mg base (L2.CX P w) (k + 1) f fd ps (spN K cls xc ps.length (fnG N.length g)) := by
  refine F.okX S (fun vs H Q E h => ?_) (fun cdv A outer s H vs Q E hr hsp => ?_)
  · obtain ⟨F0, ds, _, r, hn, _⟩ := h
    rw [r.length]; exact hn
  · obtain ⟨F0, ds, sF, r, hn, q⟩ := hsp
    obtain ⟨t, ht, hf⟩ := h cdv A outer s H E F0 hr
    refine ⟨t, ht, hf _ _ H F0 (rho0 N.length ds) (sim_start sF r) ?_⟩
    unfold fnG at q
    cases e : g (rho0 N.length ds) with
    | nx ρ' =>
      rw [e] at q
      obtain ⟨es, e0, _⟩ := q
      cases e0
    | rt d => rw [e] at q; exact q
    | ex n => rw [e] at q; exact fun σ' H' s' => q H' s'
    | bk ρ' => rw [e] at q; exact q.elim
    | ct ρ' => rw [e] at q; exact q.elim
    | bad => rw [e] at q; exact q.elim
/-- a def of the top that tells a new list -/
def OkNAt (P : Program) (w : World) (K : PySem.W.Frag) (mg : Str → Option Value) (base : Heap) (cls xc : Nat → Addr) (x : Str) (ps : List Str) (n k : Nat) (g : List PyData → O PyData) : Prop :=
  ∃ f fd, FnOk P w K mg base (L2.CX P w) k f fd ps (spN K cls xc n g) ∧ mg x = some (.ref f) ∧ PySem.W.keepIn K (.ref f) = true ∧ Binds K fd ps []
theorem okNAt_of {cls xc : Nat → Addr} {x : Str} {st : Stmt} {ps N : List Str} {k : Nat} (d : DefAt K mg x st ps) (S : FnScope N ps (defScope st)) (g : Rho → R) (own' : List Nat)
    (h : ∀ (f : Addr) (cdv : Value) (A : Around) (outer : List Env) (s : Shared) (H : Hp) (E : XK) (F0 : Hp), Room k (A.deeper (PyProof.Rows.envOfC x (defScope st) s.heap.objs.size f cdv)) →
      ∃ t, PSs (cxOf (L2.CX P w) P w K mg base N x (defScope st) f cdv A outer s H E) (defBody st) t ∧ FS K ⟨cls, xc, fun cl d _ H' => E cl d H', (H, F0), true⟩ [] [] own' t g) :
    OkNAt P w K mg base cls xc x ps ps.length (k + 1) (fnG N.length g) := by
  obtain ⟨f, fd, F, m, b⟩ := d
  exact ⟨f, fd, fn_okN F S g own' (h f), m, F.kp, b⟩
end
theorem pe_callNO {X : Cx} {cls xc : Nat → Addr} {x : Str} {ps : List Str} {n k j : Nat} {g : List PyData → O PyData} {W : WX} {p pos : Pos} {e : Expr} {es : List Expr} {t : TA} (o : OkNAt X.prog X.w X.K X.mg X.base cls xc x ps n k g) (hr : Room j X.A) (hk : k ≤ j) (hg : Gl X x) (tk : Takes X W) (ha : PA X (e :: es) t) (hdb : (x == ("__debug__" : Str)) = false := by decide)
    (he : starEach (e :: es) X.env = (false, eval e X.env) :: starEach es X.env := by rfl) (hpl : (backTo pos (starEach es X.env)).any (·.1) = false := by rfl) :
    PE X (.Call (.Name x p) (e :: es) [] pos) (tCallS (spN X.K cls xc n g) (WE W) t) := by
  obtain ⟨f, fd, F, m, kp, b⟩ := o
  exact pe_callS F (hr.mono hk) hg m kp b (fun σ => passAt tk σ) ha hdb he hpl
section
variable (ρ : Rho) (gs : Rho → O (List PyData)) (f : List PyData → O PyData) (n : Nat) (ds : List PyData)
@[simp] theorem gFnL_ap : gFnL n f gs ρ = (gs ρ).bind fun ds => if ds.length = n then (f ds).bind listO else .bad := rfl
@[simp] theorem gFnM_ap : gFnM n f gs ρ = (gs ρ).bind fun ds => if ds.length = n then (f ds).bind listT else .bad := rfl
@[simp] theorem gFnT_ap : gFnT n f gs ρ = (gs ρ).bind fun ds => if ds.length = n then (f ds).bind noLO else .bad := rfl
@[simp] theorem listO_l : listO (.list ds) = .ok (.list ds) := rfl
end
end Fn

set_option Elab.async false
set_option linter.all false
set_option maxRecDepth 100000
/-! math.gcd; // by any divisor but nought. -/
namespace Fn
open PySem PySem.Spec L2
section
variable {K : PySem.W.Frag} {c : Ct} {b : Bool}
def bGcd : List PyData → O PyData
  | [.int i, .int j] => .ok (.int ((Nat.gcd i.natAbs j.natAbs : Nat) : Int))
  | _ => .bad
@[simp] theorem bGcd_i (i j : Int) : bGcd [.int i, .int j] = .ok (.int ((Nat.gcd i.natAbs j.natAbs : Nat) : Int)) := rfl
theorem cf_gcd : CallF K c b rGcd bGcd := fun F H xs ds Q s r q => by
  unfold bGcd at q
  split at q
  · rename_i i j
    obtain ⟨x, y, rfl, h1, h2⟩ := paired2 r
    exact ⟨i, j, by rw [Rep1.int h1, Rep1.int h2], q _ _ _ (Ext.refl s) (.of (.int _))⟩
  · exact q.elim
def CDivX (_ j : Int) : Prop := j ≠ 0 ∧ j.natAbs.log2 < 9000
theorem op_fdivX {X : Cx} : OpR X (binaryOp .FloorDiv) (rI CDivX fun i j => .int (i.fdiv j)) := opI fun i j _ _ _ _ _ hc q => by
  exact PyProof.Rows.floordiv_int hc.1 q (.inl (PyProof.noPylong_of_log2 hc.2))
def dFdivX : PyData → PyData → O PyData
  | .int i, .int j => if j ≠ 0 ∧ j.natAbs.log2 < 9000 then .ok (.int (i.fdiv j)) else .bad
  | _, _ => .bad
@[simp] theorem dFdivX_int (i j : Int) : dFdivX (.int i) (.int j) = if j ≠ 0 ∧ j.natAbs.log2 < 9000 then .ok (.int (i.fdiv j)) else .bad := rfl
theorem opf_fdivX : OpF K c b (rI CDivX fun i j => .int (i.fdiv j)) dFdivX := opf_int (C := CDivX) (fun i j H Q h q => ⟨i, j, rfl, rfl, h, q⟩)
  (fun d e z h => by unfold dFdivX at h; split at h <;> first | (split at h <;> first | (cases h; exact ⟨_, _, rfl, rfl, ‹_›, rfl⟩) | cases h) | cases h) (fun d e n h => by unfold dFdivX at h; split at h <;> (try split at h) <;> cases h)
abbrev gFdivX := g2 fun d e => noEx (dFdivX d e)
end
end Fn

set_option Elab.async false
set_option linter.all false
set_option maxRecDepth 100000
/-! Tables of whole numbers over a scale, turned: the mathematics. -/
namespace Tab
open PySem PySem.Spec L2 Fn
abbrev Tb := List (List Int)
def rowO (line about : List Int) (s : Int) (c : Nat) : List Int := (List.zipWith (fun n b => n * about.getD c 0 - b * line.getD c 0) line about).set c (-(line.getD c 0) * s)
def rowA (line : List Int) (s : Int) (c : Nat) : List Int := (line.map (· * s)).set c (s * s)
def com1 (g : Int) (l : List Int) : Int := l.foldl (fun g n => ((Nat.gcd g.natAbs n.natAbs : Nat) : Int)) g
def com (s : Int) (t : Tb) : Int := t.foldl com1 s
def dvs (s : Int) (t : Tb) : Int := if 0 < s then com s t else -com s t
def redT (t : Tb) (s : Int) : Tb := t.map (·.map (·.fdiv (dvs s t)))
def redS (t : Tb) (s : Int) : Int := s.fdiv (dvs s t)
def told (t : Tb) (s : Int) (r c : Nat) : Tb := (t.map fun l => rowO l (t.getD r []) s c).set r (rowA (t.getD r []) s c)
def turnT (t : Tb) (s : Int) (r c : Nat) : Tb := redT (told t s r c) (s * (t.getD r []).getD c 0)
def turnS (t : Tb) (s : Int) (r c : Nat) : Int := redS (told t s r c) (s * (t.getD r []).getD c 0)
def Rect (m n : Nat) (t : Tb) : Prop := t.length = m ∧ ∀ l ∈ t, l.length = n

/-! the common divisor -/
theorem com1_dvd : ∀ (l : List Int) (g : Int), com1 g l ∣ g ∧ ∀ n ∈ l, com1 g l ∣ n
  | [], g => ⟨Int.dvd_refl _, fun n h => by cases h⟩
  | x :: l, g => by
    have ih := com1_dvd l ((Nat.gcd g.natAbs x.natAbs : Nat) : Int)
    have e : com1 g (x :: l) = com1 ((Nat.gcd g.natAbs x.natAbs : Nat) : Int) l := rfl
    rw [e]
    have d1 : ((Nat.gcd g.natAbs x.natAbs : Nat) : Int) ∣ g := by
      refine Int.natAbs_dvd_natAbs.mp ?_
      rw [Int.natAbs_natCast]
      exact Nat.gcd_dvd_left _ _
    have d2 : ((Nat.gcd g.natAbs x.natAbs : Nat) : Int) ∣ x := by
      refine Int.natAbs_dvd_natAbs.mp ?_
      rw [Int.natAbs_natCast]
      exact Nat.gcd_dvd_right _ _
    refine ⟨Int.dvd_trans ih.1 d1, fun n h => ?_⟩
    rcases List.mem_cons.mp h with rfl | h
    · exact Int.dvd_trans ih.1 d2
    · exact ih.2 n h
theorem com_dvd : ∀ (t : Tb) (g : Int), com g t ∣ g ∧ ∀ l ∈ t, ∀ n ∈ l, com g t ∣ n
  | [], g => ⟨Int.dvd_refl _, fun n h => by cases h⟩
  | x :: t, g => by
    have ih := com_dvd t (com1 g x)
    have e : com g (x :: t) = com (com1 g x) t := rfl
    rw [e]
    have d := com1_dvd x g
    refine ⟨Int.dvd_trans ih.1 d.1, fun l h n hn => ?_⟩
    rcases List.mem_cons.mp h with rfl | h
    · exact Int.dvd_trans ih.1 (d.2 n hn)
    · exact ih.2 l h n hn
theorem dvd_com1 {e : Int} : ∀ (l : List Int) (g : Int), e ∣ g → (∀ n ∈ l, e ∣ n) → e ∣ com1 g l
  | [], g, h, _ => h
  | x :: l, g, h, hl => by
    have e' : com1 g (x :: l) = com1 ((Nat.gcd g.natAbs x.natAbs : Nat) : Int) l := rfl
    rw [e']
    refine dvd_com1 l _ ?_ fun n hn => hl n (List.mem_cons_of_mem _ hn)
    have h2 := hl x List.mem_cons_self
    rw [← Int.natAbs_dvd_natAbs] at h h2 ⊢
    exact Nat.dvd_gcd h h2
theorem dvd_com {e : Int} : ∀ (t : Tb) (g : Int), e ∣ g → (∀ l ∈ t, ∀ n ∈ l, e ∣ n) → e ∣ com g t
  | [], g, h, _ => h
  | x :: t, g, h, ht => dvd_com t _ (dvd_com1 x g h (ht x List.mem_cons_self)) fun l hl => ht l (List.mem_cons_of_mem _ hl)
theorem com1_nn : ∀ (l : List Int) (g : Int), 0 ≤ g → 0 ≤ com1 g l
  | [], g, h => h
  | x :: l, g, _ => com1_nn l _ (Int.natCast_nonneg _)
theorem com_nn0 : ∀ (t : Tb) (g : Int), 0 ≤ g → 0 ≤ com g t
  | [], g, h => h
  | x :: t, g, h => com_nn0 t _ (com1_nn x g h)
theorem com_nn (s : Int) (t : Tb) (ht : t ≠ []) (hl : ∀ l ∈ t, l ≠ []) : 0 ≤ com s t := by
  match t, ht with
  | l :: t, _ =>
    have := hl l List.mem_cons_self
    match l, this with
    | x :: l, _ => exact com_nn0 t _ (com1_nn l _ (Int.natCast_nonneg _))
theorem com_pos (s : Int) (t : Tb) (ht : t ≠ []) (hl : ∀ l ∈ t, l ≠ []) (hs : s ≠ 0) : 0 < com s t := by
  have h := com_nn s t ht hl
  have d := (com_dvd t s).1
  rcases Int.lt_or_eq_of_le h with h | h
  · exact h
  · rw [← h] at d
    exact absurd (Int.zero_dvd.mp d) hs
section
variable {s : Int} {t : Tb}
theorem dvs_ne (ht : t ≠ []) (hl : ∀ l ∈ t, l ≠ []) (hs : s ≠ 0) : dvs s t ≠ 0 := by
  have := com_pos s t ht hl hs
  unfold dvs
  split <;> omega
theorem dvs_dvd : dvs s t ∣ s ∧ ∀ l ∈ t, ∀ n ∈ l, dvs s t ∣ n := by
  have d := com_dvd t s
  unfold dvs
  split
  · exact d
  · exact ⟨Int.neg_dvd.mpr d.1, fun l hl n hn => Int.neg_dvd.mpr (d.2 l hl n hn)⟩
theorem fdiv_mul {a d : Int} (h : d ∣ a) : d * a.fdiv d = a := by
  rw [Int.fdiv_eq_ediv_of_dvd h]
  exact Int.mul_ediv_cancel' h
theorem redS_mul : dvs s t * redS t s = s := fdiv_mul dvs_dvd.1
theorem redS_pos (ht : t ≠ []) (hl : ∀ l ∈ t, l ≠ []) (hs : s ≠ 0) : 1 ≤ redS t s := by
  have h := redS_mul (s := s) (t := t)
  have g := com_pos s t ht hl hs
  have h0 : 0 < dvs s t * s := by
    unfold dvs
    split
    · exact Int.mul_pos g ‹_›
    · have : s < 0 := by omega
      have := Int.mul_pos g (show 0 < -s by omega)
      rw [Int.neg_mul]
      rw [Int.mul_neg] at this
      exact this
  by_cases h1 : 1 ≤ redS t s
  · exact h1
  · exfalso
    have e : dvs s t * s = dvs s t * dvs s t * redS t s := by
      rw [Int.mul_assoc, h]
    have p : 0 ≤ dvs s t * dvs s t := by
      rcases Int.le_total 0 (dvs s t) with z | z
      · exact Int.mul_nonneg z z
      · exact Int.mul_nonneg_of_nonpos_of_nonpos z z
    have : dvs s t * dvs s t * redS t s ≤ 0 := Int.mul_nonpos_of_nonneg_of_nonpos p (by omega)
    omega
theorem redT_get {i j : Nat} {l : List Int} (hi : t[i]? = some l) {n : Int} (hj : l[j]? = some n) : ∃ l' n', (redT t s)[i]? = some l' ∧ l'.length = l.length ∧ l'[j]? = some n' ∧ dvs s t * n' = n := by
  refine ⟨l.map (·.fdiv (dvs s t)), n.fdiv (dvs s t), ?_, List.length_map _, ?_, ?_⟩
  · unfold redT
    rw [List.getElem?_map, hi]
    rfl
  · rw [List.getElem?_map, hj]
    rfl
  · exact fdiv_mul (dvs_dvd.2 l (List.mem_of_getElem? hi) n (List.mem_of_getElem? hj))
theorem redT_rect {m n : Nat} (h : Rect m n t) : Rect m n (redT t s) := by
  refine ⟨by unfold redT; rw [List.length_map]; exact h.1, fun l hl => ?_⟩
  unfold redT at hl
  obtain ⟨l', h1, rfl⟩ := List.mem_map.mp hl
  rw [List.length_map]
  exact h.2 l' h1
/-- what divides all that is left is one or minus one -/
theorem red_gcd (ht : t ≠ []) (hl : ∀ l ∈ t, l ≠ []) (hs : s ≠ 0) {e : Int} (h1 : e ∣ redS t s) (h2 : ∀ l ∈ redT t s, ∀ n ∈ l, e ∣ n) : e ∣ 1 := by
  have a : dvs s t * e ∣ com s t := by
    refine dvd_com t s ?_ fun l hl' n hn => ?_
    · have := Int.mul_dvd_mul_left (dvs s t) h1
      rwa [redS_mul] at this
    · obtain ⟨i, hi⟩ := List.getElem?_of_mem hl'
      obtain ⟨j, hj⟩ := List.getElem?_of_mem hn
      obtain ⟨l', n', k1, _, k3, k4⟩ := redT_get (s := s) hi hj
      have := Int.mul_dvd_mul_left (dvs s t) (h2 l' (List.mem_of_getElem? k1) n' (List.mem_of_getElem? k3))
      rwa [k4] at this
  have b : dvs s t ∣ dvs s t ∧ com s t ∣ dvs s t := ⟨Int.dvd_refl _, by unfold dvs; split; exact Int.dvd_refl _; exact Int.dvd_neg.mpr (Int.dvd_refl _)⟩
  have c := Int.dvd_trans a b.2
  have d : dvs s t * e ∣ dvs s t * 1 := by rw [Int.mul_one]; exact c
  exact Int.dvd_of_mul_dvd_mul_left (dvs_ne ht hl hs) d
end
/-! the numbers told -/
section
variable {t : Tb} {s : Int} {r c m n : Nat}
theorem rect_get (h : Rect m n t) {i : Nat} (hi : i < m) : ∃ l, t[i]? = some l ∧ l.length = n := by
  have hi' : i < t.length := by rw [h.1]; exact hi
  exact ⟨t[i], List.getElem?_eq_getElem hi', h.2 _ (List.getElem_mem hi')⟩
theorem getD_of {α : Type} {l : List α} {i : Nat} {x d : α} (h : l[i]? = some x) : l.getD i d = x := by
  rw [List.getD_eq_getElem?_getD, h]
  rfl
theorem rowO_len (l a : List Int) (h : l.length = n) (h2 : a.length = n) : (rowO l a s c).length = n := by
  unfold rowO
  rw [List.length_set, List.length_zipWith, h, h2, Nat.min_self]
theorem rowA_len (l : List Int) (h : l.length = n) : (rowA l s c).length = n := by
  unfold rowA
  rw [List.length_set, List.length_map, h]
theorem told_rect (h : Rect m n t) (hr : r < m) : Rect m n (told t s r c) := by
  obtain ⟨a, ha, la⟩ := rect_get h hr
  have ea := getD_of (d := []) ha
  refine ⟨by unfold told; rw [List.length_set, List.length_map]; exact h.1, fun l hl => ?_⟩
  unfold told at hl
  rw [ea] at hl
  rcases List.mem_or_eq_of_mem_set hl with hl | rfl
  · obtain ⟨l', h1, rfl⟩ := List.mem_map.mp hl
    exact rowO_len _ _ (h.2 _ h1) la
  · exact rowA_len _ la
/-- the number told at a place -/
def cel (t : Tb) (i j : Nat) : Int := (t.getD i []).getD j 0
theorem cel_of {l : List Int} {i j : Nat} {x : Int} (h : t[i]? = some l) (h2 : l[j]? = some x) : cel t i j = x := by
  unfold cel
  rw [getD_of h, getD_of h2]
theorem told_cel (h : Rect m n t) (hr : r < m) {i j : Nat} (hi : i < m) (hj : j < n) (hc : c < n) :
    ∃ l, (told t s r c)[i]? = some l ∧ l.length = n ∧ l[j]? = some (if i = r then (if j = c then s * s else cel t r j * s) else if j = c then -(cel t i c) * s else cel t i j * cel t r c - cel t r j * cel t i c) := by
  obtain ⟨a, ha, la⟩ := rect_get h hr
  obtain ⟨b, hb, lb⟩ := rect_get h hi
  have ea := getD_of (d := []) ha
  have aj : a[j]? = some (a[j]'(by omega)) := List.getElem?_eq_getElem _
  have ac : a[c]? = some (a[c]'(by omega)) := List.getElem?_eq_getElem _
  have bj : b[j]? = some (b[j]'(by omega)) := List.getElem?_eq_getElem _
  have bc : b[c]? = some (b[c]'(by omega)) := List.getElem?_eq_getElem _
  by_cases e : i = r
  · subst e
    refine ⟨rowA a s c, ?_, rowA_len _ la, ?_⟩
    · unfold told
      rw [List.getElem?_set_self (by rw [List.length_map, h.1]; exact hi), ea]
    · rw [if_pos rfl]
      unfold rowA
      by_cases f : j = c
      · subst f
        rw [if_pos rfl, List.getElem?_set_self (by rw [List.length_map]; omega)]
      · rw [if_neg f, List.getElem?_set_ne (fun z => f z.symm), List.getElem?_map, aj, cel_of ha aj]
        rfl
  · refine ⟨rowO b a s c, ?_, rowO_len _ _ lb la, ?_⟩
    · unfold told
      rw [List.getElem?_set_ne (fun z => e z.symm), List.getElem?_map, hb, ea]
      rfl
    · rw [if_neg e]
      unfold rowO
      by_cases f : j = c
      · subst f
        rw [if_pos rfl, List.getElem?_set_self (by rw [List.length_zipWith]; omega), cel_of hb bj, getD_of bj]
      · rw [if_neg f, List.getElem?_set_ne (fun z => f z.symm), List.getElem?_zipWith, aj, bj, cel_of hb bj, cel_of hb bc, cel_of ha aj, cel_of ha ac, getD_of ac, getD_of bc]
/-- the turned table: its numbers times the divisor are the ones told -/
theorem turn_cel (h : Rect m n t) (hr : r < m) (hc : c < n) (hs : s ≠ 0) (hp : cel t r c ≠ 0) :
    ∃ d : Int, d ≠ 0 ∧ d * turnS t s r c = s * cel t r c ∧ 1 ≤ turnS t s r c ∧ Rect m n (turnT t s r c) ∧
      (∀ i j, i < m → j < n → d * cel (turnT t s r c) i j = if i = r then (if j = c then s * s else cel t r j * s) else if j = c then -(cel t i c) * s else cel t i j * cel t r c - cel t r j * cel t i c) ∧
      ∀ e : Int, e ∣ turnS t s r c → (∀ i j, i < m → j < n → e ∣ cel (turnT t s r c) i j) → e ∣ 1 := by
  have R := told_rect (s := s) (r := r) (c := c) h hr
  have ne : told t s r c ≠ [] := fun z => by
    have := R.1
    rw [z] at this
    simp at this
    omega
  have nl : ∀ l ∈ told t s r c, l ≠ [] := fun l hl z => by
    have := R.2 l hl
    rw [z] at this
    simp at this
    omega
  have hs2 : s * cel t r c ≠ 0 := Int.mul_ne_zero hs hp
  have RR := redT_rect (s := s * cel t r c) R
  refine ⟨dvs (s * cel t r c) (told t s r c), dvs_ne ne nl hs2, redS_mul, redS_pos ne nl hs2, RR, fun i j hi hj => ?_, fun e h1 h2 => ?_⟩
  · obtain ⟨l, h1, h2, h3⟩ := told_cel (s := s) (r := r) (c := c) h hr hi hj hc
    obtain ⟨l', n', k1, _, k3, k4⟩ := redT_get (s := s * cel t r c) h1 h3
    rw [← k4]
    congr 1
    exact cel_of k1 k3
  · refine red_gcd ne nl hs2 h1 fun l hl x hx => ?_
    obtain ⟨i, hi⟩ := List.getElem?_of_mem hl
    obtain ⟨j, hj⟩ := List.getElem?_of_mem hx
    have q := h2 i j (by rw [← RR.1]; exact (List.getElem?_eq_some_iff.mp hi).1) (by rw [← RR.2 l hl]; exact (List.getElem?_eq_some_iff.mp hj).1)
    have : cel (turnT t s r c) i j = x := cel_of hi hj
    rwa [this] at q
end
end Tab

set_option Elab.async false
set_option linter.all false
set_option maxRecDepth 100000
/-! What comes of comprehensions and loops over lists of a kind. -/
namespace Fn
open PySem PySem.Spec L2
theorem compL_of {α : Type} {f : PyData → Rho → O Rho} {t : Rho → O Bool} {e : Rho → O PyData} {ρ : Rho} (φ ψ : α → PyData) : ∀ (L : List α), (∀ a ∈ L, ∃ ρ1, f (φ a) ρ = .ok ρ1 ∧ t ρ1 = .ok true ∧ e ρ1 = .ok (ψ a)) → compL f t e ρ (L.map φ) = .ok (L.map ψ)
  | [], _ => rfl
  | a :: L, h => by
    obtain ⟨ρ1, h1, h2, h3⟩ := h a List.mem_cons_self
    rw [List.map_cons, List.map_cons]
    unfold compL
    rw [h1, O.bind_ok, h2]
    show (noEx (e ρ1)).bind _ = _
    rw [h3]
    show (compL f t e ρ (L.map φ)).bind _ = _
    rw [compL_of φ ψ L fun d hd => h d (List.mem_cons_of_mem _ hd)]
    rfl
theorem comp_of {α : Type} {vs : List Nat} {f : PyData → Rho → O Rho} {t : Rho → O Bool} {e : Rho → O PyData} {gi : Rho → O (List PyData)} {ρ : Rho} (L : List α) (φ ψ : α → PyData) (hg : gi ρ = .ok (L.map φ)) (hn : L.length ≤ lim)
    (h : ∀ a ∈ L, ∃ ρ1, f (φ a) (wipeR ρ vs) = .ok ρ1 ∧ t ρ1 = .ok true ∧ e ρ1 = .ok (ψ a)) : gComp vs f t e gi ρ = .ok (.list (L.map ψ)) := by
  rw [gComp_ap, hg]
  have := compL_of (f := f) (t := t) (e := e) (ρ := wipeR ρ vs) φ ψ L h
  simp -implicitDefEqProofs [hn, this]
theorem compL_flt {α : Type} {f : PyData → Rho → O Rho} {t : Rho → O Bool} {e : Rho → O PyData} {ρ : Rho} (φ ψ : α → PyData) (p : α → Bool) : ∀ (L : List α), (∀ a ∈ L, ∃ ρ1, f (φ a) ρ = .ok ρ1 ∧ t ρ1 = .ok (p a) ∧ (p a = true → e ρ1 = .ok (ψ a))) → compL f t e ρ (L.map φ) = .ok ((L.filter p).map ψ)
  | [], _ => rfl
  | a :: L, h => by
    obtain ⟨ρ1, h1, h2, h3⟩ := h a List.mem_cons_self
    have ih := compL_flt φ ψ p L fun d hd => h d (List.mem_cons_of_mem _ hd)
    rw [List.map_cons]
    unfold compL
    rw [h1, O.bind_ok, h2]
    show (if p a = true then (noEx (e ρ1)).bind _ else compL f t e ρ (L.map φ)) = _
    cases hp : p a with
    | true =>
      rw [if_pos rfl, h3 hp, List.filter_cons_of_pos hp]
      show (compL f t e ρ (L.map φ)).bind _ = _
      rw [ih]
      rfl
    | false =>
      rw [if_neg Bool.false_ne_true, List.filter_cons_of_neg (by rw [hp]; exact Bool.false_ne_true)]
      exact ih
theorem comp_flt {α : Type} {vs : List Nat} {f : PyData → Rho → O Rho} {t : Rho → O Bool} {e : Rho → O PyData} {gi : Rho → O (List PyData)} {ρ : Rho} (L : List α) (φ ψ : α → PyData) (p : α → Bool) (hg : gi ρ = .ok (L.map φ)) (hn : L.length ≤ lim)
    (h : ∀ a ∈ L, ∃ ρ1, f (φ a) (wipeR ρ vs) = .ok ρ1 ∧ t ρ1 = .ok (p a) ∧ (p a = true → e ρ1 = .ok (ψ a))) : gComp vs f t e gi ρ = .ok (.list ((L.filter p).map ψ)) := by
  rw [gComp_ap, hg]
  have := compL_flt (f := f) (t := t) (e := e) (ρ := wipeR ρ vs) φ ψ p L h
  simp -implicitDefEqProofs [hn, this]
theorem forL_fold {α β J : Type} {f : PyData → Rho → O Rho} {body : Rho → R} (φ : α → PyData) (emb : β → J → Rho) (S : β → α → β) (I : List α → β → Prop) : ∀ (L pre : List α) (b : β) (j : J), I pre b →
    (∀ p a q b j, L = p ++ a :: q → I (pre ++ p) b → ∃ ρ1 j', f (φ a) (emb b j) = .ok ρ1 ∧ body ρ1 = .nx (emb (S b a) j') ∧ I (pre ++ p ++ [a]) (S b a)) →
    ∃ j', forL f body (L.map φ) (emb b j) = .nx (emb (L.foldl S b) j') ∧ I (pre ++ L) (L.foldl S b)
  | [], pre, b, j, h, _ => ⟨j, rfl, by rw [List.append_nil]; exact h⟩
  | a :: L, pre, b, j, h, hs => by
    obtain ⟨ρ1, j', h1, h2, h3⟩ := hs [] a L b j rfl (by rw [List.append_nil]; exact h)
    rw [List.append_nil] at h3
    obtain ⟨j2, k1, k2⟩ := forL_fold φ emb S I L (pre ++ [a]) (S b a) j' h3 fun p x q b j e hi => by
      subst e
      obtain ⟨ρ2, j2, m1, m2, m3⟩ := hs (a :: p) x q b j rfl (by rw [List.append_assoc] at hi; exact hi)
      refine ⟨ρ2, j2, m1, m2, ?_⟩
      have e1 : pre ++ [a] ++ p ++ [x] = pre ++ (a :: p) ++ [x] := by simp
      rw [e1]
      exact m3
    refine ⟨j2, ?_, by rw [List.append_assoc] at k2; exact k2⟩
    rw [List.map_cons]
    unfold forL
    rw [h1, O.go_ok, h2]
    exact k1
theorem for_fold {α β J : Type} {f : PyData → Rho → O Rho} {body : Rho → R} (L : List α) (φ : α → PyData) (emb : β → J → Rho) (S : β → α → β) (I : List α → β → Prop) {b : β} {j : J} (h0 : I [] b)
    (hs : ∀ p a q b j, L = p ++ a :: q → I p b → ∃ ρ1 j', f (φ a) (emb b j) = .ok ρ1 ∧ body ρ1 = .nx (emb (S b a) j') ∧ I (p ++ [a]) (S b a)) :
    ∃ j', forL f body (L.map φ) (emb b j) = .nx (emb (L.foldl S b) j') ∧ I L (L.foldl S b) := by
  have := forL_fold (f := f) (body := body) φ emb S I L [] b j h0 fun p a q b j e hi => by rw [List.nil_append] at hi ⊢; exact hs p a q b j e hi
  rw [List.nil_append] at this
  exact this
/-- a loop that looks for one that is not as it should be, all are -/
theorem for_all {α J : Type} {f : PyData → Rho → O Rho} {body : Rho → R} (L : List α) (φ : α → PyData) (emb : J → Rho) (j : J) (hs : ∀ a ∈ L, ∀ j, ∃ ρ1 j', f (φ a) (emb j) = .ok ρ1 ∧ body ρ1 = .nx (emb j')) :
    ∃ j', forL f body (L.map φ) (emb j) = .nx (emb j') := by
  obtain ⟨j', h, _⟩ := for_fold (f := f) (body := body) L φ (fun (_ : Unit) j => emb j) (fun _ _ => ()) (fun _ _ => True) (b := ()) (j := j) trivial fun p a q _ j e _ => by
    obtain ⟨ρ1, j', h1, h2⟩ := hs a (by rw [e]; simp) j
    exact ⟨ρ1, j', h1, h2, trivial⟩
  exact ⟨j', h⟩
/-- the same, with its answer -/
theorem for_find {α J : Type} {f : PyData → Rho → O Rho} {body : Rho → R} (φ : α → PyData) (emb : J → Rho) (p : α → Bool) (v : PyData) : ∀ (L : List α) (j : J), (∀ a ∈ L, ∀ j, ∃ ρ1, f (φ a) (emb j) = .ok ρ1 ∧ (p a = true → ∃ j', body ρ1 = .nx (emb j')) ∧ (p a = false → body ρ1 = .rt v)) →
    (L.all p = true ∧ ∃ j', forL f body (L.map φ) (emb j) = .nx (emb j')) ∨ (L.all p = false ∧ forL f body (L.map φ) (emb j) = .rt v)
  | [], j, _ => .inl ⟨rfl, j, rfl⟩
  | a :: L, j, hs => by
    obtain ⟨ρ1, h1, h2, h3⟩ := hs a List.mem_cons_self j
    rw [List.map_cons, List.all_cons]
    cases e : p a with
    | true =>
      obtain ⟨j', h4⟩ := h2 e
      rw [Bool.true_and]
      rcases for_find φ emb p v L j' fun a ha j => hs a (List.mem_cons_of_mem _ ha) j with ⟨k1, j2, k2⟩ | ⟨k1, k2⟩
      · refine .inl ⟨k1, j2, ?_⟩
        unfold forL
        rw [h1, O.go_ok, h4]
        exact k2
      · refine .inr ⟨k1, ?_⟩
        unfold forL
        rw [h1, O.go_ok, h4]
        exact k2
    | false =>
      refine .inr ⟨rfl, ?_⟩
      unfold forL
      rw [h1, O.go_ok, h3 e]
theorem rangeD_map (n : Nat) : rangeD 0 n = (List.range n).map fun (i : Nat) => PyData.int i := rangeD_int n
/-! sizes -/
def Sm (k : Nat) (x : Int) : Prop := x.natAbs < 2 ^ k
theorem Sm.up {k m : Nat} {x : Int} (h : Sm k x) (hm : k ≤ m) : Sm m x := Nat.lt_of_lt_of_le h (Nat.pow_le_pow_right (by decide) hm)
theorem Sm.mul {k m : Nat} {x y : Int} (h : Sm k x) (h2 : Sm m y) : Sm (k + m) (x * y) := wide_lt h h2
theorem Sm.sub {k : Nat} {x y : Int} (h : Sm k x) (h2 : Sm k y) : Sm (k + 1) (x - y) := by
  unfold Sm at *
  rw [Nat.pow_succ]
  omega
theorem Sm.add {k : Nat} {x y : Int} (h : Sm k x) (h2 : Sm k y) : Sm (k + 1) (x + y) := by
  unfold Sm at *
  rw [Nat.pow_succ]
  omega
theorem Sm.neg {k : Nat} {x : Int} (h : Sm k x) : Sm k (-x) := by
  unfold Sm at *
  omega
theorem Sm.ok {k m : Nat} {x y : Int} (h : Sm k x) (h2 : Sm m y) (h0 : 0 < k) (h1 : 0 < m) (hk : k + m ≤ 1000000) : mulOk x y = true := by
  have : CMulW x y := wide_mul h h2 h0 h1 hk
  unfold mulOk
  rw [decide_eq_true (show x.natAbs.log2 + y.natAbs.log2 < 1000000 from this)]
  rfl
theorem Sm.log {k : Nat} {x : Int} (h : Sm k x) (h0 : 0 < k) (h9 : k ≤ 9000) : x.natAbs.log2 < 9000 := Nat.lt_of_lt_of_le (PySem.Flt.log2_lt_of h0 h) h9
theorem Sm.dvd {k : Nat} {x d : Int} (h : Sm k x) (hd : d ∣ x) (hx : x ≠ 0) : Sm k d := by
  unfold Sm at *
  have := Nat.le_of_dvd (by omega) (Int.natAbs_dvd_natAbs.mpr hd)
  omega
/-- what is left of a divided number is no greater -/
theorem Sm.quot {k : Nat} {x d q : Int} (h : Sm k x) (hd : d * q = x) (hd0 : d ≠ 0) : Sm k q := by
  unfold Sm at *
  have h1 : x.natAbs = d.natAbs * q.natAbs := by rw [← hd, Int.natAbs_mul]
  have h2 : 1 ≤ d.natAbs := by omega
  have := Nat.mul_le_mul_right q.natAbs h2
  omega
abbrev lnD (l : List Int) : PyData := .list (l.map PyData.int)
abbrev tbD (t : List (List Int)) : PyData := .list (t.map lnD)
theorem getD_map (l : List Int) (i : Nat) (h : i < l.length) : (l.map PyData.int)[i]? = some (.int (l.getD i 0)) := by
  rw [List.getElem?_map, List.getElem?_eq_getElem h, List.getD_eq_getElem?_getD, List.getElem?_eq_getElem h]
  rfl
theorem ix_int (l : List Int) (i : Nat) (h : i < l.length) : dIx (lnD l) (.int i) = .ok (.int (l.getD i 0)) := dIx_l _ _ (by
  rw [atI_map, atI_getD 0 (by omega) (by omega), Int.toNat_natCast]
  rfl)
theorem ix_row (t : List (List Int)) (i : Nat) (h : i < t.length) : dIx (tbD t) (.int i) = .ok (lnD (t.getD i [])) := dIx_l _ _ (by
  rw [atI_map, atI_getD [] (by omega) (by omega), Int.toNat_natCast]
  rfl)
theorem ixN_nat {n i : Nat} (h : i < n) : ixN n (i : Int) = some i := by
  rw [ixN_of (by omega) (by omega), Int.toNat_natCast]
theorem set_int (l : List Int) (i : Nat) (v : Int) : (l.map PyData.int).set i (.int v) = (l.set i v).map PyData.int := List.map_set.symm
theorem set_row (t : List (List Int)) (i : Nat) (v : List Int) : (t.map lnD).set i (lnD v) = (t.set i v).map lnD := List.map_set.symm
theorem zipD_map {α β : Type} (f : α → PyData) (g : β → PyData) : ∀ (xs : List α) (ys : List β), zipD (xs.map f) (ys.map g) = (xs.zip ys).map fun p => .tuple [f p.1, g p.2]
  | [], _ => by unfold zipD; simp
  | _ :: _, [] => by unfold zipD; simp
  | x :: xs, y :: ys => by
    have ih := zipD_map f g xs ys
    unfold zipD at ih ⊢
    rw [List.map_cons, List.map_cons, List.zipWith_cons_cons, ih, List.zip_cons_cons, List.map_cons]
end Fn

set_option Elab.async false
set_option linter.all false
set_option maxRecDepth 100000
namespace K05
open PySem PySem.Spec L2 Fn
def topS (i : Nat) : Stmt := PySem.Challenge.pw_wholecut_k05_tables_turned.main.body.getD i (.Pass ⟨0, 0, 0, 0⟩)
structure Top (K : PySem.W.Frag) (mg : Str → Option Value) (xc cls : Nat → Addr) : Prop where
  n_bool : mg "bool" = none
  n_int : mg "int" = none
  n_isinstance : mg "isinstance" = none
  n_len : mg "len" = none
  n_list : mg "list" = none
  n_range : mg "range" = none
  n_tuple : mg "tuple" = none
  n_zip : mg "zip" = none
  m_gcd : mg "gcd" = some (.builtin "math.gcd")
  e_CutError : ExcAt K mg "CutError" (xc 0)
  e_BadProblem : ExcAt K mg "BadProblem" (xc 1)
  e_BadPoint : ExcAt K mg "BadPoint" (xc 2)
  e_BadBox : ExcAt K mg "BadBox" (xc 3)
  e_BadWeights : ExcAt K mg "BadWeights" (xc 4)
  e_NoTurn : ExcAt K mg "NoTurn" (xc 5)
  e_BadText : ExcAt K mg "BadText" (xc 6)
  d_turned : DefAt K mg "turned" (topS 10) ["table", "scale", "row", "column"]
  d_about_row : DefAt K mg "about_row" (topS 11) ["line", "scale", "column"]
  d_other_row : DefAt K mg "other_row" (topS 12) ["line", "about_line", "scale", "column"]
  d_reduced : DefAt K mg "reduced" (topS 13) ["table", "scale"]
  d__law_cell_at : DefAt K mg "_law_cell_at" (topS 15) ["_law_script", "_law_k"]
  d__law_whole : DefAt K mg "_law_whole" (topS 16) ["_law_found"]
  d__law_fraction : DefAt K mg "_law_fraction" (topS 17) ["_law_above", "_law_below"]
  d__law_fallen : DefAt K mg "_law_fallen" (topS 18) ["_law_one", "_law_two", "_law_three", "_law_pivot"]
  d__law_turned : DefAt K mg "_law_turned" (topS 19) ["_law_table", "_law_row", "_law_column"]
  d__law_alike : DefAt K mg "_law_alike" (topS 20) ["_law_table", "_law_scale", "_law_due"]
  d__law_refused : DefAt K mg "_law_refused" (topS 21) ["_law_table", "_law_scale", "_law_row", "_law_column"]
  d_law : DefAt K mg "law" (topS 22) ["_law_script"]
section
variable {P : Program} {w : World} {K : PySem.W.Frag} {mg : Str → Option Value} {base : Heap} {cls xc : Nat → Addr}
/-! ### about_row -/
abbrev st_about_row : Stmt := topS 11
theorem sc_about_row : FnScope ["line", "scale", "column", "told", "number"] ["line", "scale", "column"] (defScope st_about_row) := ⟨rfl, rfl, rfl, by decide +kernel, rfl, by decide +kernel, by decide +kernel⟩
def g_about_row : Rho → R :=
    (gSeq (gSet 3 (gComp [4] (aName 4) gYes (gMul (gVar 4) (gVar 1)) (gItA (gVar 0))))
    (gSeq (gSetIx 3 (gVar 2) (gMul (gVar 1) (gVar 1)))
    (gRet (gVar 3))))
def f_about_row : List PyData → O PyData := fnG 5 g_about_row
theorem ok_about_row (T : Top K mg xc cls) : OkAt P w K mg base cls xc "about_row" ["line", "scale", "column"] 3 1 f_about_row :=
  okAt_of T.d_about_row sc_about_row g_about_row [3] fun f cdv A outer s H E F0 hr => ⟨_, (pss_cons (ps_setLc (i := 3) (own := [("number", 4)]) rfl sc_about_row.nd rfl rfl (sw_true rfl rfl rfl (by decide +kernel)) (pi_any (pv 0)) (blkOk_by (N := ["line", "scale", "column", "told", "number"]) (sc := defScope st_about_row) (own := [("number", 4)]) (by decide +kernel)) (fun _ _ _ _ _ => (pg_name (i := 4) sc_about_row.nd rfl (by first | exact Or.inl rfl | exact Or.inr rfl))) (fun _ _ _ _ _ => pts_nil) (fun _ _ _ _ _ => (pe_op op_mulAll (pv 4) (pv 1))))
      (pss_cons (ps_asg (pe_op op_mulAll (pv 1) (pv 1)) (pg_sub (pv 3) (pv 2) set_list))
      (pss_one (ps_ret (pv 3))))),
    (fs_seq (own1 := [3]) (fs_setO (own' := [3]) (fo_comp (vs := [4]) (fi_any (fe_var rfl)) (fc_name rfl rfl) aName_ex ft_yes (fe_op opf_mul (fe_var rfl) (fe_var rfl))) gComp_list rfl)
      (fs_seq (own1 := [3]) (fs_setIx (fe_op opf_mul (fe_var rfl) (fe_var rfl)) (fe_var rfl) rfl)
      (fs_ret (fe_var rfl))))⟩
/-! ### reduced -/
abbrev st_reduced : Stmt := topS 13
theorem sc_reduced : FnScope ["table", "scale", "common", "line", "number", "divisor"] ["table", "scale"] (defScope st_reduced) := ⟨rfl, rfl, rfl, by decide +kernel, rfl, by decide +kernel, by decide +kernel⟩
def g_reduced : Rho → R :=
    (gSeq (gSet 2 (gVar 1))
    (gSeq (gFor (aName 3) (gItA (gVar 0)) (gFor (aName 4) (gItA (gVar 3)) (gSet 2 (gB bGcd (gConsA (gVar 2) (gConsA (gVar 4) gNilA))))))
    (gSeq (gSet 5 (gIf (gBl (gGt (gVar 1) (gC (.int 0)))) (gVar 2) (gNeg (gVar 2))))
    (gRet (gTup (gConsA (gComp [3] (aName 3) gYes (gComp [4] (aName 4) gYes (gFdivX (gVar 4) (gVar 5)) (gItA (gVar 3))) (gItA (gVar 0))) (gConsA (gFdivX (gVar 1) (gVar 5)) gNilA)))))))
def f_reduced : List PyData → O PyData := fnG 6 g_reduced
theorem ok_reduced (T : Top K mg xc cls) : OkAt P w K mg base cls xc "reduced" ["table", "scale"] 2 1 f_reduced :=
  okAt_of T.d_reduced sc_reduced g_reduced [] fun f cdv A outer s H E F0 hr => ⟨_, (pss_cons (ps_set (i := 2) sc_reduced.nd rfl (by first | exact Or.inl rfl | exact Or.inr rfl) (pv 1))
      (pss_cons (ps_for (passes_of rfl) rfl (pi_any (pv 0)) (pg_name (i := 3) sc_reduced.nd rfl (by first | exact Or.inl rfl | exact Or.inr rfl)) (pss_one (ps_for (passes_of rfl) rfl (pi_any (pv 3)) (pg_name (i := 4) sc_reduced.nd rfl (by first | exact Or.inl rfl | exact Or.inr rfl)) (pss_one (ps_set (i := 2) sc_reduced.nd rfl (by first | exact Or.inl rfl | exact Or.inr rfl) (pe_callBfun cr_gcd (by rfl) T.m_gcd (pa_cons (pv 2) (pa_cons (pv 4) pa_nil))))))))
      (pss_cons (ps_set (i := 5) sc_reduced.nd rfl (by first | exact Or.inl rfl | exact Or.inr rfl) (pe_ifExp (pt_cmpR op_gt (pv 1) pe_int (nomark _)) (pv 2) (pe_un un_neg (pv 2))))
      (pss_one (ps_ret (pe_tup (pa_cons (pe_lc (own := [("line", 3)]) rfl sc_reduced.nd (pi_any (pv 0)) (blkOk_by (N := ["table", "scale", "common", "line", "number", "divisor"]) (sc := defScope st_reduced) (own := [("line", 3)]) (by decide +kernel)) (fun _ _ _ _ _ => (pg_name (i := 3) sc_reduced.nd rfl (by first | exact Or.inl rfl | exact Or.inr rfl))) (fun _ _ _ _ _ => pts_nil) (fun _ _ _ _ _ => (pe_lc (own := [("number", 4)]) rfl sc_reduced.nd (pi_any (pv 3)) (blkOk_by (by kernel_rfl)) (fun _ _ _ _ _ => (pg_name (i := 4) sc_reduced.nd rfl (by first | exact Or.inl rfl | exact Or.inr rfl))) (fun _ _ _ _ _ => pts_nil) (fun _ _ _ _ _ => (pe_op op_fdivX (pv 4) (pv 5)))))) (pa_cons (pe_op op_fdivX (pv 1) (pv 5)) pa_nil)))))))),
    (fs_seq (own1 := []) (fs_set (fe_var rfl) rfl)
      (fs_seq (own1 := []) (fs_for (fi_any (fe_var rfl)) (fg_name rfl) aName_ex (fs_for (fi_any (fe_var rfl)) (fg_name rfl) aName_ex (fs_set (fe_callB cf_gcd (fa_cons (fe_var rfl) (fa_cons (fe_var rfl) fa_nil))) rfl)))
      (fs_seq (own1 := []) (fs_set (fe_if (ft_test (fe_op opf_gt (fe_var rfl) (fe_int 0))) (fe_var rfl) (fe_un unf_neg (fe_var rfl))) rfl)
      (fs_ret (fe_tup (fa_cons (fe_comp (vs := [3]) (fi_any (fe_var rfl)) (fc_name rfl rfl) aName_ex ft_yes (fe_comp (vs := [4]) (fi_any (fe_var rfl)) (fc_name rfl rfl) aName_ex ft_yes (fe_op opf_fdivX (fe_var rfl) (fe_var rfl)))) (fa_cons (fe_op opf_fdivX (fe_var rfl) (fe_var rfl)) fa_nil)))))))⟩
/-! ### other_row -/
abbrev st_other_row : Stmt := topS 12
theorem sc_other_row : FnScope ["line", "about_line", "scale", "column", "about", "part", "told", "number", "beside"] ["line", "about_line", "scale", "column"] (defScope st_other_row) := ⟨rfl, rfl, rfl, by decide +kernel, rfl, by decide +kernel, by decide +kernel⟩
def g_other_row : Rho → R :=
    (gSeq (gAsg (aTup (aCons (aName 4) (aCons (aName 5) aNil))) (gTup (gConsA (gIx (gVar 1) (gVar 3)) (gConsA (gIx (gVar 0) (gVar 3)) gNilA))))
    (gSeq (gSet 6 (gComp [7, 8] (aTup (aCons (aName 7) (aCons (aName 8) aNil))) gYes (gSub' (gMul (gVar 7) (gVar 4)) (gMul (gVar 8) (gVar 5))) (gZipM (gConsA (gVar 0) (gConsA (gVar 1) gNilA)))))
    (gSeq (gSetIx 6 (gVar 3) (gMul (gNeg (gVar 5)) (gVar 2)))
    (gRet (gVar 6)))))
def f_other_row : List PyData → O PyData := fnG 9 g_other_row
theorem ok_other_row (T : Top K mg xc cls) : OkAt P w K mg base cls xc "other_row" ["line", "about_line", "scale", "column"] 4 1 f_other_row :=
  okAt_of T.d_other_row sc_other_row g_other_row [6] fun f cdv A outer s H E F0 hr => ⟨_, (pss_cons (ps_asg (pe_tup (pa_cons (pe_ix ix_seq (pv 1) (pv 3) (fun _ _ => rfl)) (pa_cons (pe_ix ix_seq (pv 0) (pv 3) (fun _ _ => rfl)) pa_nil))) (pg_tup (by rfl) (pgs_cons (pg_name (i := 4) sc_other_row.nd rfl (by first | exact Or.inl rfl | exact Or.inr rfl)) (pgs_cons (pg_name (i := 5) sc_other_row.nd rfl (by first | exact Or.inl rfl | exact Or.inr rfl)) pgs_nil))))
      (pss_cons (ps_setLc (i := 6) (own := [("number", 7), ("beside", 8)]) rfl sc_other_row.nd rfl rfl (sw_true rfl rfl rfl (by decide +kernel)) (FnZ.pi_zipM (by rfl) T.n_zip (pa_cons (pv 0) (pa_cons (pv 1) pa_nil))) (blkOk_by (N := ["line", "about_line", "scale", "column", "about", "part", "told", "number", "beside"]) (sc := defScope st_other_row) (own := [("number", 7), ("beside", 8)]) (by decide +kernel)) (fun _ _ _ _ _ => (pg_tup (by rfl) (pgs_cons (pg_name (i := 7) sc_other_row.nd rfl (by first | exact Or.inl rfl | exact Or.inr rfl)) (pgs_cons (pg_name (i := 8) sc_other_row.nd rfl (by first | exact Or.inl rfl | exact Or.inr rfl)) pgs_nil)))) (fun _ _ _ _ _ => pts_nil) (fun _ _ _ _ _ => (pe_op op_sub (pe_op op_mulAll (pv 7) (pv 4)) (pe_op op_mulAll (pv 8) (pv 5)))))
      (pss_cons (ps_asg (pe_op op_mulAll (pe_un un_neg (pv 5)) (pv 2)) (pg_sub (pv 6) (pv 3) set_list))
      (pss_one (ps_ret (pv 6)))))),
    (fs_seq (own1 := []) (fs_asg (fe_tup (fa_cons (fe_op opf_ix (fe_var rfl) (fe_var rfl)) (fa_cons (fe_op opf_ix (fe_var rfl) (fe_var rfl)) fa_nil))) (fg_tup (fgs_cons (fg_name rfl) (fgs_cons (fg_name rfl) fgs_nil)) (aCons_len (aCons_len aNil_len aName_ex) aName_ex)) (aTup_ex (aCons_ex aName_ex (aCons_ex aName_ex aNil_ex))))
      (fs_seq (own1 := [6]) (fs_setO (own' := [6]) (fo_comp (vs := [7, 8]) (fi_zipM (fa_cons (fe_var rfl) (fa_cons (fe_var rfl) fa_nil))) (fc_tup (fcs_cons (fc_name rfl rfl) (fcs_cons (fc_name rfl rfl) fcs_nil)) (aCons_len (aCons_len aNil_len aName_ex) aName_ex)) (aTup_ex (aCons_ex aName_ex (aCons_ex aName_ex aNil_ex))) ft_yes (fe_op opf_sub (fe_op opf_mul (fe_var rfl) (fe_var rfl)) (fe_op opf_mul (fe_var rfl) (fe_var rfl)))) gComp_list rfl)
      (fs_seq (own1 := [6]) (fs_setIx (fe_op opf_mul (fe_un unf_neg (fe_var rfl)) (fe_var rfl)) (fe_var rfl) rfl)
      (fs_ret (fe_var rfl)))))⟩
/-! ### turned -/
abbrev st_turned : Stmt := topS 10
theorem sc_turned : FnScope ["table", "scale", "row", "column", "about", "told", "line"] ["table", "scale", "row", "column"] (defScope st_turned) := ⟨rfl, rfl, rfl, by decide +kernel, rfl, by decide +kernel, by decide +kernel⟩
def g_turned : Rho → R :=
    (gSeq (gSet 4 (gIx (gIx (gVar 0) (gVar 2)) (gVar 3)))
    (gSeq (gIfS (gBl (gEq (gVar 4) (gC (.int 0)))) (gRaise 5) gNext)
    (gSeq (gSet 5 (gComp [6] (aName 6) gYes (gFn 4 f_other_row (gConsA (gVar 6) (gConsA (gIx (gVar 0) (gVar 2)) (gConsA (gVar 1) (gConsA (gVar 3) gNilA))))) (gItA (gVar 0))))
    (gSeq (gSetIx 5 (gVar 2) (gFn 3 f_about_row (gConsA (gIx (gVar 0) (gVar 2)) (gConsA (gVar 1) (gConsA (gVar 3) gNilA)))))
    (gRet (gFn 2 f_reduced (gConsA (gVar 5) (gConsA (gMul (gVar 1) (gVar 4)) gNilA))))))))
def f_turned : List PyData → O PyData := fnG 7 g_turned
theorem ok_turned (T : Top K mg xc cls) : OkAt P w K mg base cls xc "turned" ["table", "scale", "row", "column"] 4 2 f_turned :=
  okAt_of T.d_turned sc_turned g_turned [5] fun f cdv A outer s H E F0 hr => ⟨_, (pss_cons (ps_set (i := 4) sc_turned.nd rfl (by first | exact Or.inl rfl | exact Or.inr rfl) (pe_ix ix_seq (pe_ix ix_seq (pv 0) (pv 2) (fun _ _ => rfl)) (pv 3) (fun _ _ => rfl)))
      (pss_cons (ps_if (pt_cmpR (op_eqAll hr.units) (pv 4) pe_int (nomark _)) (pss_one (ps_raiseO rfl (takes_of rfl rfl rfl rfl) T.e_NoTurn (by rfl))) pss_nil)
      (pss_cons (ps_setLc (i := 5) (own := [("line", 6)]) rfl sc_turned.nd rfl rfl (sw_true rfl rfl rfl (by decide +kernel)) (pi_any (pv 0)) (blkOk_by (N := ["table", "scale", "row", "column", "about", "told", "line"]) (sc := defScope st_turned) (own := [("line", 6)]) (by decide +kernel)) (fun _ _ _ _ _ => (pg_name (i := 6) sc_turned.nd rfl (by first | exact Or.inl rfl | exact Or.inr rfl))) (fun _ _ _ _ _ => pts_nil) (fun _ _ _ _ _ => (pe_callO (ok_other_row T) hr (by decide) (by rfl) takes0 (pa_cons (pv 6) (pa_cons (pe_ix ix_seq (pv 0) (pv 2) (fun _ _ => rfl)) (pa_cons (pv 1) (pa_cons (pv 3) pa_nil)))))))
      (pss_cons (ps_asg (pe_callO (ok_about_row T) hr (by decide) (by rfl) (takes_of rfl rfl rfl rfl) (pa_cons (pe_ix ix_seq (pv 0) (pv 2) (fun _ _ => rfl)) (pa_cons (pv 1) (pa_cons (pv 3) pa_nil)))) (pg_sub (pv 5) (pv 2) set_list))
      (pss_one (ps_ret (pe_callO (ok_reduced T) hr (by decide) (by rfl) (takes_of rfl rfl rfl rfl) (pa_cons (pv 5) (pa_cons (pe_op op_mulAll (pv 1) (pv 4)) pa_nil))))))))),
    (fs_seq (own1 := []) (fs_set (fe_op opf_ix (fe_op opf_ix (fe_var rfl) (fe_var rfl)) (fe_var rfl)) rfl)
      (fs_seq (own1 := []) (fs_if (own' := []) (ft_test (fe_op opf_eq (fe_var rfl) (fe_int 0))) (fs_raise (n := 5) rfl rfl) fs_next)
      (fs_seq (own1 := [5]) (fs_setO (own' := [5]) (fo_comp (vs := [6]) (fi_any (fe_var rfl)) (fc_name rfl rfl) aName_ex ft_yes (fe_call rfl (fa_cons (fe_var rfl) (fa_cons (fe_op opf_ix (fe_var rfl) (fe_var rfl)) (fa_cons (fe_var rfl) (fa_cons (fe_var rfl) fa_nil)))))) gComp_list rfl)
      (fs_seq (own1 := [5]) (fs_setIx (fe_call rfl (fa_cons (fe_op opf_ix (fe_var rfl) (fe_var rfl)) (fa_cons (fe_var rfl) (fa_cons (fe_var rfl) fa_nil)))) (fe_var rfl) rfl)
      (fs_ret (fe_call rfl (fa_cons (fe_var rfl) (fa_cons (fe_op opf_mul (fe_var rfl) (fe_var rfl)) fa_nil))))))))⟩
/-! ### _law_cell_at -/
abbrev st__law_cell_at : Stmt := topS 15
theorem sc__law_cell_at : FnScope ["_law_script", "_law_k", "_law_cell"] ["_law_script", "_law_k"] (defScope st__law_cell_at) := ⟨rfl, rfl, rfl, by decide +kernel, rfl, by decide +kernel, by decide +kernel⟩
def g__law_cell_at : Rho → R :=
    (gSeq (gSet 2 (gC (.int 0)))
    (gSeq (gIfS (gBl (gGt (gB bLen (gConsA (gVar 0) gNilA)) (gC (.int 0)))) (gSet 2 (gIx (gVar 0) (gMod (gVar 1) (gB bLen (gConsA (gVar 0) gNilA))))) gNext)
    (gRet (gMod (gMul (gAdd (gVar 2) (gMul (gC (.int 17)) (gVar 1))) (gC (.int 48271))) (gC (.int 1000003))))))
def f__law_cell_at : List PyData → O PyData := fnG 3 g__law_cell_at
theorem ok__law_cell_at (T : Top K mg xc cls) : OkAt P w K mg base cls xc "_law_cell_at" ["_law_script", "_law_k"] 2 1 f__law_cell_at :=
  okAt_of T.d__law_cell_at sc__law_cell_at g__law_cell_at [] fun f cdv A outer s H E F0 hr => ⟨_, (pss_cons (ps_set (i := 2) sc__law_cell_at.nd rfl (by first | exact Or.inl rfl | exact Or.inr rfl) pe_int)
      (pss_cons (ps_if (pt_cmpR op_gt (pe_callB call_len (by rfl) T.n_len bt_len (pa_cons (pv 0) pa_nil)) pe_int (nomark _)) (pss_one (ps_set (i := 2) sc__law_cell_at.nd rfl (by first | exact Or.inl rfl | exact Or.inr rfl) (pe_ix ix_seq (pv 0) (pe_op op_mod (pv 1) (pe_callB call_len (by rfl) T.n_len bt_len (pa_cons (pv 0) pa_nil))) (fun _ _ => rfl)))) pss_nil)
      (pss_one (ps_ret (pe_op op_mod (pe_op op_mulAll (pe_op op_addAll (pv 2) (pe_op op_mulAll pe_int (pv 1))) pe_int) pe_int))))),
    (fs_seq (own1 := []) (fs_set (fe_int 0) rfl)
      (fs_seq (own1 := []) (fs_if (own' := []) (ft_test (fe_op opf_gt (fe_callB cf_len (fa_cons (fe_var rfl) fa_nil)) (fe_int 0))) (fs_set (fe_op opf_ix (fe_var rfl) (fe_op opf_mod (fe_var rfl) (fe_callB cf_len (fa_cons (fe_var rfl) fa_nil)))) rfl) fs_next)
      (fs_ret (fe_op opf_mod (fe_op opf_mul (fe_op opf_add (fe_var rfl) (fe_op opf_mul (fe_int 17) (fe_var rfl))) (fe_int 48271)) (fe_int 1000003)))))⟩
/-! ### _law_whole -/
abbrev st__law_whole : Stmt := topS 16
theorem sc__law_whole : FnScope ["_law_found"] ["_law_found"] (defScope st__law_whole) := ⟨rfl, rfl, rfl, by decide +kernel, rfl, by decide +kernel, by decide +kernel⟩
def g__law_whole : Rho → R :=
    (gRet (gAndV (gIsi "int" (gVar 0)) (gNotV (gIsi "bool" (gVar 0)))))
def f__law_whole : List PyData → O PyData := fnG 1 g__law_whole
theorem ok__law_whole (T : Top K mg xc cls) : OkAt P w K mg base cls xc "_law_whole" ["_law_found"] 1 1 f__law_whole :=
  okAt_of T.d__law_whole sc__law_whole g__law_whole [] fun f cdv A outer s H E F0 hr => ⟨_, (pss_one (ps_ret (pe_and (pe_callB call_isi (by rfl) T.n_isinstance bt_isinstance (pa_cons (pv 0) (pa_cons (pe_bltn (v := .ty "int") (by rfl) T.n_int bt_int rfl) pa_nil))) (pe_one (pe_not (pe_callB call_isi (by rfl) T.n_isinstance bt_isinstance (pa_cons (pv 0) (pa_cons (pe_bltn (v := .ty "bool") (by rfl) T.n_bool bt_bool rfl) pa_nil)))))))),
    (fs_ret (fe_and (fe_isi kit_int (fe_var rfl)) (fe_not (fe_isi kit_bool (fe_var rfl)))))⟩
/-! ### _law_fraction -/
abbrev st__law_fraction : Stmt := topS 17
theorem sc__law_fraction : FnScope ["_law_above", "_law_below"] ["_law_above", "_law_below"] (defScope st__law_fraction) := ⟨rfl, rfl, rfl, by decide +kernel, rfl, by decide +kernel, by decide +kernel⟩
def g__law_fraction : Rho → R :=
    (gSeq (gIfS (gBl (gLt (gVar 1) (gC (.int 0)))) (gRet (gTup (gConsA (gSub' (gC (.int 0)) (gVar 0)) (gConsA (gSub' (gC (.int 0)) (gVar 1)) gNilA)))) gNext)
    (gRet (gTup (gConsA (gVar 0) (gConsA (gVar 1) gNilA)))))
def f__law_fraction : List PyData → O PyData := fnG 2 g__law_fraction
theorem ok__law_fraction (T : Top K mg xc cls) : OkAt P w K mg base cls xc "_law_fraction" ["_law_above", "_law_below"] 2 1 f__law_fraction :=
  okAt_of T.d__law_fraction sc__law_fraction g__law_fraction [] fun f cdv A outer s H E F0 hr => ⟨_, (pss_cons (ps_if (pt_cmpR op_lt (pv 1) pe_int (nomark _)) (pss_one (ps_ret (pe_tup (pa_cons (pe_op op_sub pe_int (pv 0)) (pa_cons (pe_op op_sub pe_int (pv 1)) pa_nil))))) pss_nil)
      (pss_one (ps_ret (pe_tup (pa_cons (pv 0) (pa_cons (pv 1) pa_nil)))))),
    (fs_seq (own1 := []) (fs_if (own' := []) (ft_test (fe_op opf_lt (fe_var rfl) (fe_int 0))) (fs_ret (fe_tup (fa_cons (fe_op opf_sub (fe_int 0) (fe_var rfl)) (fa_cons (fe_op opf_sub (fe_int 0) (fe_var rfl)) fa_nil)))) fs_next)
      (fs_ret (fe_tup (fa_cons (fe_var rfl) (fa_cons (fe_var rfl) fa_nil)))))⟩
/-! ### _law_fallen -/
abbrev st__law_fallen : Stmt := topS 18
theorem sc__law_fallen : FnScope ["_law_one", "_law_two", "_law_three", "_law_pivot", "_law_less", "_law_below"] ["_law_one", "_law_two", "_law_three", "_law_pivot"] (defScope st__law_fallen) := ⟨rfl, rfl, rfl, by decide +kernel, rfl, by decide +kernel, by decide +kernel⟩
def g__law_fallen : Rho → R :=
    (gSeq (gSet 4 (gMul (gMul (gMul (gIx (gVar 1) (gC (.int 0))) (gIx (gVar 2) (gC (.int 0)))) (gIx (gVar 3) (gC (.int 1)))) (gIx (gVar 0) (gC (.int 1)))))
    (gSeq (gSet 5 (gMul (gMul (gIx (gVar 1) (gC (.int 1))) (gIx (gVar 2) (gC (.int 1)))) (gIx (gVar 3) (gC (.int 0)))))
    (gRet (gFn 2 f__law_fraction (gConsA (gSub' (gMul (gIx (gVar 0) (gC (.int 0))) (gVar 5)) (gVar 4)) (gConsA (gMul (gIx (gVar 0) (gC (.int 1))) (gVar 5)) gNilA))))))
def f__law_fallen : List PyData → O PyData := fnG 6 g__law_fallen
theorem ok__law_fallen (T : Top K mg xc cls) : OkAt P w K mg base cls xc "_law_fallen" ["_law_one", "_law_two", "_law_three", "_law_pivot"] 4 2 f__law_fallen :=
  okAt_of T.d__law_fallen sc__law_fallen g__law_fallen [] fun f cdv A outer s H E F0 hr => ⟨_, (pss_cons (ps_set (i := 4) sc__law_fallen.nd rfl (by first | exact Or.inl rfl | exact Or.inr rfl) (pe_op op_mulAll (pe_op op_mulAll (pe_op op_mulAll (pe_ix ix_seq (pv 1) pe_int (fun _ _ => rfl)) (pe_ix ix_seq (pv 2) pe_int (fun _ _ => rfl))) (pe_ix ix_seq (pv 3) pe_int (fun _ _ => rfl))) (pe_ix ix_seq (pv 0) pe_int (fun _ _ => rfl))))
      (pss_cons (ps_set (i := 5) sc__law_fallen.nd rfl (by first | exact Or.inl rfl | exact Or.inr rfl) (pe_op op_mulAll (pe_op op_mulAll (pe_ix ix_seq (pv 1) pe_int (fun _ _ => rfl)) (pe_ix ix_seq (pv 2) pe_int (fun _ _ => rfl))) (pe_ix ix_seq (pv 3) pe_int (fun _ _ => rfl))))
      (pss_one (ps_ret (pe_callO (ok__law_fraction T) hr (by decide) (by rfl) (takes_of rfl rfl rfl rfl) (pa_cons (pe_op op_sub (pe_op op_mulAll (pe_ix ix_seq (pv 0) pe_int (fun _ _ => rfl)) (pv 5)) (pv 4)) (pa_cons (pe_op op_mulAll (pe_ix ix_seq (pv 0) pe_int (fun _ _ => rfl)) (pv 5)) pa_nil))))))),
    (fs_seq (own1 := []) (fs_set (fe_op opf_mul (fe_op opf_mul (fe_op opf_mul (fe_op opf_ix (fe_var rfl) (fe_int 0)) (fe_op opf_ix (fe_var rfl) (fe_int 0))) (fe_op opf_ix (fe_var rfl) (fe_int 1))) (fe_op opf_ix (fe_var rfl) (fe_int 1))) rfl)
      (fs_seq (own1 := []) (fs_set (fe_op opf_mul (fe_op opf_mul (fe_op opf_ix (fe_var rfl) (fe_int 1)) (fe_op opf_ix (fe_var rfl) (fe_int 1))) (fe_op opf_ix (fe_var rfl) (fe_int 0))) rfl)
      (fs_ret (fe_call rfl (fa_cons (fe_op opf_sub (fe_op opf_mul (fe_op opf_ix (fe_var rfl) (fe_int 0)) (fe_var rfl)) (fe_var rfl)) (fa_cons (fe_op opf_mul (fe_op opf_ix (fe_var rfl) (fe_int 1)) (fe_var rfl)) fa_nil))))))⟩
/-! ### _law_turned -/
abbrev st__law_turned : Stmt := topS 19
theorem sc__law_turned : FnScope ["_law_table", "_law_row", "_law_column", "_law_pivot", "_law_found", "_law_at", "_law_line", "_law_place", "_law_one"] ["_law_table", "_law_row", "_law_column"] (defScope st__law_turned) := ⟨rfl, rfl, rfl, by decide +kernel, rfl, by decide +kernel, by decide +kernel⟩
def g__law_turned : Rho → R :=
    (gSeq (gSet 3 (gIx (gIx (gVar 0) (gVar 1)) (gVar 2)))
    (gSeq (gSet 4 (gLst gNilA))
    (gSeq (gFor (aName 5) (gRng1 (gConsA (gB bLen (gConsA (gVar 0) gNilA)) gNilA)) (gSeq (gSet 6 (gLst gNilA))
    (gSeq (gFor (aName 7) (gRng1 (gConsA (gB bLen (gConsA (gIx (gVar 0) (gC (.int 0))) gNilA)) gNilA)) (gSeq (gSet 8 (gIx (gIx (gVar 0) (gVar 5)) (gVar 7)))
    (gIfS (gAndT (gBl (gEq (gVar 5) (gVar 1))) (gBl (gEq (gVar 7) (gVar 2)))) (gAppend 6 (gFn 2 f__law_fraction (gConsA (gIx (gVar 3) (gC (.int 1))) (gConsA (gIx (gVar 3) (gC (.int 0))) gNilA)))) (gIfS (gBl (gEq (gVar 5) (gVar 1))) (gAppend 6 (gFn 2 f__law_fraction (gConsA (gMul (gIx (gVar 8) (gC (.int 0))) (gIx (gVar 3) (gC (.int 1)))) (gConsA (gMul (gIx (gVar 8) (gC (.int 1))) (gIx (gVar 3) (gC (.int 0)))) gNilA)))) (gIfS (gBl (gEq (gVar 7) (gVar 2))) (gAppend 6 (gFn 2 f__law_fraction (gConsA (gSub' (gC (.int 0)) (gMul (gIx (gVar 8) (gC (.int 0))) (gIx (gVar 3) (gC (.int 1))))) (gConsA (gMul (gIx (gVar 8) (gC (.int 1))) (gIx (gVar 3) (gC (.int 0)))) gNilA)))) (gAppend 6 (gFn 4 f__law_fallen (gConsA (gVar 8) (gConsA (gIx (gIx (gVar 0) (gVar 5)) (gVar 2)) (gConsA (gIx (gIx (gVar 0) (gVar 1)) (gVar 7)) (gConsA (gVar 3) gNilA)))))))))))
    (gAppend 4 (gVar 6)))))
    (gRet (gVar 4)))))
def f__law_turned : List PyData → O PyData := fnG 9 g__law_turned
theorem ok__law_turned (T : Top K mg xc cls) : OkAt P w K mg base cls xc "_law_turned" ["_law_table", "_law_row", "_law_column"] 3 3 f__law_turned :=
  okAt_of T.d__law_turned sc__law_turned g__law_turned [4] fun f cdv A outer s H E F0 hr => ⟨_, (pss_cons (ps_set (i := 3) sc__law_turned.nd rfl (by first | exact Or.inl rfl | exact Or.inr rfl) (pe_ix ix_seq (pe_ix ix_seq (pv 0) (pv 1) (fun _ _ => rfl)) (pv 2) (fun _ _ => rfl)))
      (pss_cons (ps_set (i := 4) sc__law_turned.nd rfl (by first | exact Or.inl rfl | exact Or.inr rfl) (pe_lst pa_nil))
      (pss_cons (ps_for (passes_of rfl) rfl (pi_range1 (by rfl) T.n_range (pa_cons (pe_callB call_len (by rfl) T.n_len bt_len (pa_cons (pv 0) pa_nil)) pa_nil)) (pg_name (i := 5) sc__law_turned.nd rfl (by first | exact Or.inl rfl | exact Or.inr rfl)) (pss_cons (ps_set (i := 6) sc__law_turned.nd rfl (by first | exact Or.inl rfl | exact Or.inr rfl) (pe_lst pa_nil))
      (pss_cons (ps_for (passes_of rfl) rfl (pi_range1 (by rfl) T.n_range (pa_cons (pe_callB call_len (by rfl) T.n_len bt_len (pa_cons (pe_ix ix_seq (pv 0) pe_int (fun _ _ => rfl)) pa_nil)) pa_nil)) (pg_name (i := 7) sc__law_turned.nd rfl (by first | exact Or.inl rfl | exact Or.inr rfl)) (pss_cons (ps_set (i := 8) sc__law_turned.nd rfl (by first | exact Or.inl rfl | exact Or.inr rfl) (pe_ix ix_seq (pe_ix ix_seq (pv 0) (pv 5) (fun _ _ => rfl)) (pv 7) (fun _ _ => rfl)))
      (pss_one (ps_if (PW.pt (pw_and (pt_cmpR (op_eqAll hr.units) (pv 5) (pv 1) (nomark _)) (pw_and1 (pt_cmpR (op_eqAll hr.units) (pv 7) (pv 2) (nomark _))))) (pss_one (ps_expr (pe_bm PySem.F.plainAttrs_list PySem.F.slot_list_append PySem.F.type_list_append mt_append (pv 6) (pa_cons (pe_callO (ok__law_fraction T) hr (by decide) (by rfl) (takes_of rfl rfl rfl rfl) (pa_cons (pe_ix ix_seq (pv 3) pe_int (fun _ _ => rfl)) (pa_cons (pe_ix ix_seq (pv 3) pe_int (fun _ _ => rfl)) pa_nil))) pa_nil)))) (pss_one (ps_if (pt_cmpR (op_eqAll hr.units) (pv 5) (pv 1) (nomark _)) (pss_one (ps_expr (pe_bm PySem.F.plainAttrs_list PySem.F.slot_list_append PySem.F.type_list_append mt_append (pv 6) (pa_cons (pe_callO (ok__law_fraction T) hr (by decide) (by rfl) (takes_of rfl rfl rfl rfl) (pa_cons (pe_op op_mulAll (pe_ix ix_seq (pv 8) pe_int (fun _ _ => rfl)) (pe_ix ix_seq (pv 3) pe_int (fun _ _ => rfl))) (pa_cons (pe_op op_mulAll (pe_ix ix_seq (pv 8) pe_int (fun _ _ => rfl)) (pe_ix ix_seq (pv 3) pe_int (fun _ _ => rfl))) pa_nil))) pa_nil)))) (pss_one (ps_if (pt_cmpR (op_eqAll hr.units) (pv 7) (pv 2) (nomark _)) (pss_one (ps_expr (pe_bm PySem.F.plainAttrs_list PySem.F.slot_list_append PySem.F.type_list_append mt_append (pv 6) (pa_cons (pe_callO (ok__law_fraction T) hr (by decide) (by rfl) (takes_of rfl rfl rfl rfl) (pa_cons (pe_op op_sub pe_int (pe_op op_mulAll (pe_ix ix_seq (pv 8) pe_int (fun _ _ => rfl)) (pe_ix ix_seq (pv 3) pe_int (fun _ _ => rfl)))) (pa_cons (pe_op op_mulAll (pe_ix ix_seq (pv 8) pe_int (fun _ _ => rfl)) (pe_ix ix_seq (pv 3) pe_int (fun _ _ => rfl))) pa_nil))) pa_nil)))) (pss_one (ps_expr (pe_bm PySem.F.plainAttrs_list PySem.F.slot_list_append PySem.F.type_list_append mt_append (pv 6) (pa_cons (pe_callO (ok__law_fallen T) hr (by decide) (by rfl) (takes_of rfl rfl rfl rfl) (pa_cons (pv 8) (pa_cons (pe_ix ix_seq (pe_ix ix_seq (pv 0) (pv 5) (fun _ _ => rfl)) (pv 2) (fun _ _ => rfl)) (pa_cons (pe_ix ix_seq (pe_ix ix_seq (pv 0) (pv 1) (fun _ _ => rfl)) (pv 7) (fun _ _ => rfl)) (pa_cons (pv 3) pa_nil))))) pa_nil))))))))))))
      (pss_one (ps_expr (pe_bm PySem.F.plainAttrs_list PySem.F.slot_list_append PySem.F.type_list_append mt_append (pv 4) (pa_cons (pv 6) pa_nil)))))))
      (pss_one (ps_ret (pv 4)))))),
    (fs_seq (own1 := []) (fs_set (fe_op opf_ix (fe_op opf_ix (fe_var rfl) (fe_var rfl)) (fe_var rfl)) rfl)
      (fs_seq (own1 := [4]) (fs_setO (own' := [4]) (fo_lst fa_nil) gLst_list rfl)
      (fs_seq (own1 := [4]) (fs_for (fi_range1 (fa_cons (fe_callB cf_len (fa_cons (fe_var rfl) fa_nil)) fa_nil)) (fg_name rfl) aName_ex (fs_seq (own1 := [6, 4]) (fs_setO (own' := [6, 4]) (fo_lst fa_nil) gLst_list rfl)
      (fs_seq (own1 := [6, 4]) (fs_for (fi_range1 (fa_cons (fe_callB cf_len (fa_cons (fe_op opf_ix (fe_var rfl) (fe_int 0)) fa_nil)) fa_nil)) (fg_name rfl) aName_ex (fs_seq (own1 := [6, 4]) (fs_set (fe_op opf_ix (fe_op opf_ix (fe_var rfl) (fe_var rfl)) (fe_var rfl)) rfl)
      (fs_if (own' := [6, 4]) (ft_and (ft_test (fe_op opf_eq (fe_var rfl) (fe_var rfl))) (ft_test (fe_op opf_eq (fe_var rfl) (fe_var rfl)))) (fs_append (fe_call rfl (fa_cons (fe_op opf_ix (fe_var rfl) (fe_int 1)) (fa_cons (fe_op opf_ix (fe_var rfl) (fe_int 0)) fa_nil))) rfl) (fs_if (own' := [6, 4]) (ft_test (fe_op opf_eq (fe_var rfl) (fe_var rfl))) (fs_append (fe_call rfl (fa_cons (fe_op opf_mul (fe_op opf_ix (fe_var rfl) (fe_int 0)) (fe_op opf_ix (fe_var rfl) (fe_int 1))) (fa_cons (fe_op opf_mul (fe_op opf_ix (fe_var rfl) (fe_int 1)) (fe_op opf_ix (fe_var rfl) (fe_int 0))) fa_nil))) rfl) (fs_if (own' := [6, 4]) (ft_test (fe_op opf_eq (fe_var rfl) (fe_var rfl))) (fs_append (fe_call rfl (fa_cons (fe_op opf_sub (fe_int 0) (fe_op opf_mul (fe_op opf_ix (fe_var rfl) (fe_int 0)) (fe_op opf_ix (fe_var rfl) (fe_int 1)))) (fa_cons (fe_op opf_mul (fe_op opf_ix (fe_var rfl) (fe_int 1)) (fe_op opf_ix (fe_var rfl) (fe_int 0))) fa_nil))) rfl) (fs_append (fe_call rfl (fa_cons (fe_var rfl) (fa_cons (fe_op opf_ix (fe_op opf_ix (fe_var rfl) (fe_var rfl)) (fe_var rfl)) (fa_cons (fe_op opf_ix (fe_op opf_ix (fe_var rfl) (fe_var rfl)) (fe_var rfl)) (fa_cons (fe_var rfl) fa_nil))))) rfl))))))
      (fs_freeze [4] (fs_append (fe_var rfl) rfl) rfl))))
      (fs_ret (fe_var rfl)))))⟩
/-! ### _law_alike -/
abbrev st__law_alike : Stmt := topS 20
theorem sc__law_alike : FnScope ["_law_table", "_law_scale", "_law_due", "_law_at", "_law_place", "_law_number"] ["_law_table", "_law_scale", "_law_due"] (defScope st__law_alike) := ⟨rfl, rfl, rfl, by decide +kernel, rfl, by decide +kernel, by decide +kernel⟩
def g__law_alike : Rho → R :=
    (gSeq (gIfS (gOrT (gNotT (gTru (gIsi "list" (gVar 0)))) (gOrT (gBl (gNe (gB bLen (gConsA (gVar 0) gNilA)) (gB bLen (gConsA (gVar 2) gNilA)))) (gOrT (gNotT (gTru (gFn 1 f__law_whole (gConsA (gVar 1) gNilA)))) (gBl (gLt (gVar 1) (gC (.int 1))))))) (gRet (gC (.bool false))) gNext)
    (gSeq (gFor (aName 3) (gRng1 (gConsA (gB bLen (gConsA (gVar 2) gNilA)) gNilA)) (gSeq (gIfS (gOrT (gNotT (gTru (gIsi "list" (gIx (gVar 0) (gVar 3))))) (gBl (gNe (gB bLen (gConsA (gIx (gVar 0) (gVar 3)) gNilA)) (gB bLen (gConsA (gIx (gVar 2) (gVar 3)) gNilA))))) (gRet (gC (.bool false))) gNext)
    (gFor (aName 4) (gRng1 (gConsA (gB bLen (gConsA (gIx (gVar 2) (gVar 3)) gNilA)) gNilA)) (gSeq (gSet 5 (gIx (gIx (gVar 0) (gVar 3)) (gVar 4)))
    (gIfS (gOrT (gNotT (gTru (gFn 1 f__law_whole (gConsA (gVar 5) gNilA)))) (gBl (gNe (gMul (gVar 5) (gIx (gIx (gIx (gVar 2) (gVar 3)) (gVar 4)) (gC (.int 1)))) (gMul (gIx (gIx (gIx (gVar 2) (gVar 3)) (gVar 4)) (gC (.int 0))) (gVar 1))))) (gRet (gC (.bool false))) gNext)))))
    (gRet (gC (.bool true)))))
def f__law_alike : List PyData → O PyData := fnG 6 g__law_alike
theorem ok__law_alike (T : Top K mg xc cls) : OkAt P w K mg base cls xc "_law_alike" ["_law_table", "_law_scale", "_law_due"] 3 2 f__law_alike :=
  okAt_of T.d__law_alike sc__law_alike g__law_alike [] fun f cdv A outer s H E F0 hr => ⟨_, (pss_cons (ps_if (PW.pt (pw_or (pt_not (pt_truth (pe_callB call_isi (by rfl) T.n_isinstance bt_isinstance (pa_cons (pv 0) (pa_cons (pe_bltn (v := .ty "list") (by rfl) T.n_list bt_list rfl) pa_nil))) (by intro _; rfl))) (pw_or (pt_cmpR (op_neAll hr.units) (pe_callB call_len (by rfl) T.n_len bt_len (pa_cons (pv 0) pa_nil)) (pe_callB call_len (by rfl) T.n_len bt_len (pa_cons (pv 2) pa_nil)) (nomark _)) (pw_or (pt_not (pt_truth (pe_callO (ok__law_whole T) hr (by decide) (by rfl) (takes_of rfl rfl rfl rfl) (pa_cons (pv 1) pa_nil)) (by intro _; rfl))) (pw_or1 (pt_cmpR op_lt (pv 1) pe_int (nomark _))))))) (pss_one (ps_ret pe_bl)) pss_nil)
      (pss_cons (ps_for (passes_of rfl) rfl (pi_range1 (by rfl) T.n_range (pa_cons (pe_callB call_len (by rfl) T.n_len bt_len (pa_cons (pv 2) pa_nil)) pa_nil)) (pg_name (i := 3) sc__law_alike.nd rfl (by first | exact Or.inl rfl | exact Or.inr rfl)) (pss_cons (ps_if (PW.pt (pw_or (pt_not (pt_truth (pe_callB call_isi (by rfl) T.n_isinstance bt_isinstance (pa_cons (pe_ix ix_seq (pv 0) (pv 3) (fun _ _ => rfl)) (pa_cons (pe_bltn (v := .ty "list") (by rfl) T.n_list bt_list rfl) pa_nil))) (by intro _; rfl))) (pw_or1 (pt_cmpR (op_neAll hr.units) (pe_callB call_len (by rfl) T.n_len bt_len (pa_cons (pe_ix ix_seq (pv 0) (pv 3) (fun _ _ => rfl)) pa_nil)) (pe_callB call_len (by rfl) T.n_len bt_len (pa_cons (pe_ix ix_seq (pv 2) (pv 3) (fun _ _ => rfl)) pa_nil)) (nomark _))))) (pss_one (ps_ret pe_bl)) pss_nil)
      (pss_one (ps_for (passes_of rfl) rfl (pi_range1 (by rfl) T.n_range (pa_cons (pe_callB call_len (by rfl) T.n_len bt_len (pa_cons (pe_ix ix_seq (pv 2) (pv 3) (fun _ _ => rfl)) pa_nil)) pa_nil)) (pg_name (i := 4) sc__law_alike.nd rfl (by first | exact Or.inl rfl | exact Or.inr rfl)) (pss_cons (ps_set (i := 5) sc__law_alike.nd rfl (by first | exact Or.inl rfl | exact Or.inr rfl) (pe_ix ix_seq (pe_ix ix_seq (pv 0) (pv 3) (fun _ _ => rfl)) (pv 4) (fun _ _ => rfl)))
      (pss_one (ps_if (PW.pt (pw_or (pt_not (pt_truth (pe_callO (ok__law_whole T) hr (by decide) (by rfl) (takes_of rfl rfl rfl rfl) (pa_cons (pv 5) pa_nil)) (by intro _; rfl))) (pw_or1 (pt_cmpR (op_neAll hr.units) (pe_op op_mulAll (pv 5) (pe_ix ix_seq (pe_ix ix_seq (pe_ix ix_seq (pv 2) (pv 3) (fun _ _ => rfl)) (pv 4) (fun _ _ => rfl)) pe_int (fun _ _ => rfl))) (pe_op op_mulAll (pe_ix ix_seq (pe_ix ix_seq (pe_ix ix_seq (pv 2) (pv 3) (fun _ _ => rfl)) (pv 4) (fun _ _ => rfl)) pe_int (fun _ _ => rfl)) (pv 1)) (nomark _))))) (pss_one (ps_ret pe_bl)) pss_nil)))))))
      (pss_one (ps_ret pe_bl)))),
    (fs_seq (own1 := []) (fs_if (own' := []) (ft_or (ft_not (ft_truth (fe_isi kit_list (fe_var rfl)))) (ft_or (ft_test (fe_op opf_ne (fe_callB cf_len (fa_cons (fe_var rfl) fa_nil)) (fe_callB cf_len (fa_cons (fe_var rfl) fa_nil)))) (ft_or (ft_not (ft_truth (fe_call rfl (fa_cons (fe_var rfl) fa_nil)))) (ft_test (fe_op opf_lt (fe_var rfl) (fe_int 1)))))) (fs_ret (fe_bool false)) fs_next)
      (fs_seq (own1 := []) (fs_for (fi_range1 (fa_cons (fe_callB cf_len (fa_cons (fe_var rfl) fa_nil)) fa_nil)) (fg_name rfl) aName_ex (fs_seq (own1 := []) (fs_if (own' := []) (ft_or (ft_not (ft_truth (fe_isi kit_list (fe_op opf_ix (fe_var rfl) (fe_var rfl))))) (ft_test (fe_op opf_ne (fe_callB cf_len (fa_cons (fe_op opf_ix (fe_var rfl) (fe_var rfl)) fa_nil)) (fe_callB cf_len (fa_cons (fe_op opf_ix (fe_var rfl) (fe_var rfl)) fa_nil))))) (fs_ret (fe_bool false)) fs_next)
      (fs_for (fi_range1 (fa_cons (fe_callB cf_len (fa_cons (fe_op opf_ix (fe_var rfl) (fe_var rfl)) fa_nil)) fa_nil)) (fg_name rfl) aName_ex (fs_seq (own1 := []) (fs_set (fe_op opf_ix (fe_op opf_ix (fe_var rfl) (fe_var rfl)) (fe_var rfl)) rfl)
      (fs_if (own' := []) (ft_or (ft_not (ft_truth (fe_call rfl (fa_cons (fe_var rfl) fa_nil)))) (ft_test (fe_op opf_ne (fe_op opf_mul (fe_var rfl) (fe_op opf_ix (fe_op opf_ix (fe_op opf_ix (fe_var rfl) (fe_var rfl)) (fe_var rfl)) (fe_int 1))) (fe_op opf_mul (fe_op opf_ix (fe_op opf_ix (fe_op opf_ix (fe_var rfl) (fe_var rfl)) (fe_var rfl)) (fe_int 0)) (fe_var rfl))))) (fs_ret (fe_bool false)) fs_next)))))
      (fs_ret (fe_bool true))))⟩
end
end K05

set_option Elab.async false
set_option linter.all false
set_option maxRecDepth 100000
namespace K05
open PySem PySem.Spec L2 Fn
abbrev st__law_refused : Stmt := topS 21
theorem sc__law_refused : FnScope ["_law_table", "_law_scale", "_law_row", "_law_column", "e"] ["_law_table", "_law_scale", "_law_row", "_law_column"] (defScope st__law_refused) := ⟨rfl, rfl, rfl, by decide +kernel, rfl, by decide +kernel, by decide +kernel⟩
def isX : O PyData → O PyData
  | .ex n => if n = 5 then .ok (.bool true) else .bad
  | _ => .bad
def f__law_refused (ds : List PyData) : O PyData := isX (f_turned ds)
theorem isX_ok {P : PyData → Prop} {E : Nat → Prop} : ∀ {o : O PyData}, OPost P E (isX o) → o = .ex 5 ∧ P (.bool true)
  | .ex n, h => by
    have h : OPost P E (if n = 5 then .ok (.bool true) else .bad) := h
    by_cases e : n = 5
    · rw [if_pos e] at h
      exact ⟨by rw [e], h⟩
    · rw [if_neg e] at h
      exact h.elim
  | .ok _, h => h.elim
  | .bad, h => h.elim
section
variable {P : Program} {w : World} {K : PySem.W.Frag} {mg : Str → Option Value} {base : Heap} {cls xc : Nat → Addr}
theorem ok__law_refused (T : Top K mg xc cls) (R : RefN K mg xc 5) : OkAt P w K mg base cls xc "_law_refused" ["_law_table", "_law_scale", "_law_row", "_law_column"] 4 4 f__law_refused := by
  obtain ⟨f, fd, F, m, b⟩ := T.d__law_refused
  refine ⟨f, fd, F.okX sc__law_refused (fun vs H Q E h => ?_) (fun cdv A outer s H vs Q E hr hsp => ?_), m, F.kp, b⟩
  · obtain ⟨F0, ds, _, r, hn, _⟩ := h
    rw [r.length]; exact hn
  · refine ⟨_, pss_cons (ps_try_as (i := 4) rfl rfl sc__law_refused.nd rfl rfl ⟨rfl, by decide, .inl T.e_NoTurn.g⟩ (takes_of rfl rfl rfl rfl)
      (fun W pn xe tk _ => pss_one (ps_expr (pe_callT (cxOf (L2.CX P w) P w K mg base ["_law_table", "_law_scale", "_law_row", "_law_column", "e"] "_law_refused" (defScope st__law_refused) f cdv A outer s H E) pn xe (ok_turned T) hr (by decide) (by rfl) tk (pa_cons (pv 0) (pa_cons (pv 1) (pa_cons (pv 2) (pa_cons (pv 3) pa_nil)))))))
      (fun a oe cls d pn hz hf => pss_guard (p := cls = Value.ref (xc 5) ∧ d = none) fun hp =>
        pss_cons (ps_if (PW.pt (pw_or (pt_isE (cxOf (L2.CX P w) P w K mg base ["_law_table", "_law_scale", "_law_row", "_law_column", "e"] "_law_refused" (defScope st__law_refused) f cdv A outer s H E) a pn (i := 4) R.x1 (zc_of hp hz) hf T.n_isinstance (by rfl) (pv 4) (pe_glob (v := .ref (xc 2)) (by rfl) T.e_BadPoint.g rfl)) (pw_or (pt_isE (cxOf (L2.CX P w) P w K mg base ["_law_table", "_law_scale", "_law_row", "_law_column", "e"] "_law_refused" (defScope st__law_refused) f cdv A outer s H E) a pn (i := 4) R.x1 (zc_of hp hz) hf T.n_isinstance (by rfl) (pv 4) (pe_glob (v := .ref (xc 3)) (by rfl) T.e_BadBox.g rfl)) (pw_or1 (pt_isE (cxOf (L2.CX P w) P w K mg base ["_law_table", "_law_scale", "_law_row", "_law_column", "e"] "_law_refused" (defScope st__law_refused) f cdv A outer s H E) a pn (i := 4) R.x1 (zc_of hp hz) hf T.n_isinstance (by rfl) (pv 4) (pe_glob (v := .ref (xc 4)) (by rfl) T.e_BadWeights.g rfl)))))) (pss_one (ps_ret pe_bl)) pss_nil)
        (pss_cons (ps_if (PW.pt (pw_or (pt_isE (cxOf (L2.CX P w) P w K mg base ["_law_table", "_law_scale", "_law_row", "_law_column", "e"] "_law_refused" (defScope st__law_refused) f cdv A outer s H E) a pn (i := 4) R.x1 (zc_of hp hz) hf T.n_isinstance (by rfl) (pv 4) (pe_glob (v := .ref (xc 1)) (by rfl) T.e_BadProblem.g rfl)) (pw_or1 (pt_isE (cxOf (L2.CX P w) P w K mg base ["_law_table", "_law_scale", "_law_row", "_law_column", "e"] "_law_refused" (defScope st__law_refused) f cdv A outer s H E) a pn (i := 4) R.x1 (zc_of hp hz) hf T.n_isinstance (by rfl) (pv 4) (pe_glob (v := .ref (xc 6)) (by rfl) T.e_BadText.g rfl))))) (pss_one (ps_ret pe_bl)) pss_nil)
        (pss_one (ps_ret (pe_and (pe_isE (cxOf (L2.CX P w) P w K mg base ["_law_table", "_law_scale", "_law_row", "_law_column", "e"] "_law_refused" (defScope st__law_refused) f cdv A outer s H E) a pn (i := 4) R.x1 (zc_of hp hz) hf T.n_isinstance (by rfl) (pv 4) (pe_glob (v := .ref (xc 0)) (by rfl) T.e_CutError.g rfl))
          (pe_one (pe_isE (cxOf (L2.CX P w) P w K mg base ["_law_table", "_law_scale", "_law_row", "_law_column", "e"] "_law_refused" (defScope st__law_refused) f cdv A outer s H E) a pn (i := 4) R.x1 (zc_of hp hz) hf T.n_isinstance (by rfl) (pv 4) (pe_bltn (v := .ty "ValueError") (by rfl) R.nV (by decide +kernel) rfl))))))))) (pss_one (ps_ret pe_bl)), ?_⟩
    obtain ⟨F0, ds, sF, r, hn, q⟩ := hsp
    obtain ⟨d0, d1, d2, d3, rfl⟩ : ∃ d0 d1 d2 d3, ds = [d0, d1, d2, d3] := by
      match ds, hn with
      | [d0, d1, d2, d3], _ => exact ⟨d0, d1, d2, d3, rfl⟩
    obtain ⟨v0, v1, v2, v3, rfl, y0, y1, y2, y3⟩ : ∃ v0 v1 v2 v3, vs = [v0, v1, v2, v3] ∧ Rep K cls F0 v0 d0 ∧ Rep K cls F0 v1 d1 ∧ Rep K cls F0 v2 d2 ∧ Rep K cls F0 v3 d3 := by
      cases r with
      | cons r0 r =>
        cases r with
        | cons r1 r =>
          cases r with
          | cons r2 r =>
            cases r with
            | cons r3 r =>
              cases r
              exact ⟨_, _, _, _, rfl, r0, r1, r2, r3⟩
    obtain ⟨e, q⟩ := isX_ok q
    refine ⟨v0, rfl, v1, rfl, v2, rfl, v3, rfl, F0, [_, _, _, _], sF, (.cons y0 (.cons y1 (.cons y2 (.cons y3 .nil)))), rfl, ?_⟩
    rw [e]
    intro H2 h2
    refine ⟨true, R.em, fun _ a ha => ⟨⟨rfl, rfl⟩, ?_⟩, fun z => by cases z⟩
    refine isT_rd rfl (fun _ h => h) (R.k 2 (by decide)) (isT_rd rfl (fun _ h => h) (R.k 3 (by decide)) (isT_rd rfl (fun _ h => h) (R.k 4 (by decide)) ?_))
    refine isT_rd rfl (fun _ h => h) (R.k 1 (by decide)) (isT_rd rfl (fun _ h => h) (R.k 6 (by decide)) ?_)
    refine isE_rd rfl (fun _ h => h) (R.k 0 (by decide)) ?_
    refine ⟨true, rfl, ?_⟩
    rw [if_pos rfl]
    refine isE_rd rfl (fun _ h => h) R.kV ?_
    exact q _ H2 F0 ⟨Same.refl _, h2, sF.trans h2, fun _ _ z => .inl z⟩ (.bl true)
end
end K05

set_option Elab.async false
set_option linter.all false
set_option maxRecDepth 100000
namespace K05
open PySem PySem.Spec L2 Fn Tab
theorem about_row_ok {k : Nat} {l : List Int} {s : Int} {c : Nat} (hc : c < l.length) (hn : l.length ≤ 1000) (hs : Sm k s) (hl : ∀ x ∈ l, Sm k x) (h0 : 0 < k) (hk : k + k ≤ 1000000) :
    f_about_row [lnD l, .int s, .int c] = .ok (lnD (rowA l s c)) := by
  have e : rho0 5 [lnD l, PyData.int s, PyData.int c] = [some (lnD l), some (.int s), some (.int c), none, none] := rfl
  unfold f_about_row fnG
  rw [e]
  unfold g_about_row
  have hcc := comp_of (vs := [4]) (f := aName 4) (t := gYes) (e := gMul (gVar 4) (gVar 1)) (gi := gItA (gVar 0)) (ρ := [some (lnD l), some (.int s), some (.int c), none, none]) l PyData.int (fun x => .int (x * s)) (by simp -implicitDefEqProofs) (lim_ge hn) (fun a ha => ⟨_, rfl, rfl, by
    simp -implicitDefEqProofs [(hl a ha).ok hs h0 h0 hk]⟩)
  have hsm := hs.ok hs h0 h0 hk
  have hx : ixN l.length (c : Int) = some c := ixN_nat hc
  simp -implicitDefEqProofs [hcc, hsm, hx]
  unfold rowA
  rw [← set_int, List.map_map]
  rfl
theorem other_row_ok {k : Nat} {l a : List Int} {s : Int} {c : Nat} (hc : c < l.length) (ha : a.length = l.length) (hn : l.length ≤ 1000) (hs : Sm k s) (hl : ∀ x ∈ l, Sm k x) (hla : ∀ x ∈ a, Sm k x) (h0 : 0 < k) (hk : k + k ≤ 1000000) :
    f_other_row [lnD l, lnD a, .int s, .int c] = .ok (lnD (rowO l a s c)) := by
  have e : rho0 9 [lnD l, lnD a, PyData.int s, PyData.int c] = [some (lnD l), some (lnD a), some (.int s), some (.int c), none, none, none, none, none] := rfl
  unfold f_other_row fnG
  rw [e]
  unfold g_other_row
  have i1 := ix_int a c (by omega)
  have i2 := ix_int l c hc
  have m1 : Sm k (a.getD c 0) := hla _ (by rw [List.getD_eq_getElem?_getD, List.getElem?_eq_getElem (by omega)]; exact List.getElem_mem _)
  have m2 : Sm k (l.getD c 0) := hl _ (by rw [List.getD_eq_getElem?_getD, List.getElem?_eq_getElem (by omega)]; exact List.getElem_mem _)
  generalize hA : a.getD c 0 = A at *
  generalize hB : l.getD c 0 = B at *
  have hcc := comp_of (vs := [7, 8]) (f := aTup (aCons (aName 7) (aCons (aName 8) aNil))) (t := gYes) (e := gSub' (gMul (gVar 7) (gVar 4)) (gMul (gVar 8) (gVar 5))) (gi := gZipM (gConsA (gVar 0) (gConsA (gVar 1) gNilA))) (ρ := [some (lnD l), some (lnD a), some (.int s), some (.int c), some (.int A), some (.int B), none, none, none])
    (l.zip a) (fun p => PyData.tuple [.int p.1, .int p.2]) (fun p => .int (p.1 * A - p.2 * B)) (by simp -implicitDefEqProofs [zipD_map]) (lim_ge (by rw [List.length_zip]; omega)) (fun p hp => ⟨_, rfl, rfl, by
    have q := List.of_mem_zip (a := p.1) (b := p.2) hp
    simp -implicitDefEqProofs [(hl _ q.1).ok m1 h0 h0 hk, (hla _ q.2).ok m2 h0 h0 hk]⟩)
  have hsm := m2.neg.ok hs h0 h0 hk
  have hz : (l.zip a).length = l.length := by rw [List.length_zip]; omega
  have hx : ixN l.length (c : Int) = some c := ixN_nat hc
  simp -implicitDefEqProofs [i1, i2, hcc, hsm, hz, hx, ha]
  unfold rowO
  rw [hA, hB, ← set_int]
  congr 1
  rw [List.zip_eq_zipWith, List.map_zipWith, List.map_zipWith]
theorem reduced_ok {k m n : Nat} {t : Tb} {s : Int} (h : Rect m n t) (hm : 1 ≤ m) (hn : 1 ≤ n) (hm2 : m ≤ 1000) (hn2 : n ≤ 1000) (hs : Sm k s) (hs0 : s ≠ 0) (h0 : 0 < k) (hk : k ≤ 9000) :
    f_reduced [tbD t, .int s] = .ok (.tuple [tbD (redT t s), .int (redS t s)]) := by
  have e : rho0 6 [tbD t, PyData.int s] = [some (tbD t), some (.int s), none, none, none, none] := rfl
  unfold f_reduced fnG
  rw [e]
  unfold g_reduced
  have ne : t ≠ [] := fun z => by
    have := h.1
    rw [z] at this
    simp at this
    omega
  have nl : ∀ l ∈ t, l ≠ [] := fun l hl z => by
    have := h.2 l hl
    rw [z] at this
    simp at this
    omega
  have inner : ∀ (l : List Int) (g : Int) (x y : Option PyData), ∃ y', forL (aName 4) (gSet 2 (gB bGcd (gConsA (gVar 2) (gConsA (gVar 4) gNilA)))) (l.map PyData.int) [some (tbD t), some (.int s), some (.int g), x, y, none] = .nx [some (tbD t), some (.int s), some (.int (com1 g l)), x, y', none] := fun l g x y => by
    obtain ⟨j', h1, _⟩ := for_fold (f := aName 4) (body := gSet 2 (gB bGcd (gConsA (gVar 2) (gConsA (gVar 4) gNilA)))) l PyData.int (fun (g : Int) (y : Option PyData) => [some (tbD t), some (.int s), some (.int g), x, y, none]) (fun g n => ((Nat.gcd g.natAbs n.natAbs : Nat) : Int)) (fun _ _ => True) (b := g) (j := y) trivial
      (fun p a q b j _ _ => ⟨_, some (.int a), rfl, by simp -implicitDefEqProofs, trivial⟩)
    exact ⟨j', h1⟩
  obtain ⟨⟨x3, x4⟩, hf, _⟩ := for_fold (f := aName 3) (body := gFor (aName 4) (gItA (gVar 3)) (gSet 2 (gB bGcd (gConsA (gVar 2) (gConsA (gVar 4) gNilA))))) t lnD (fun (g : Int) (y : Option PyData × Option PyData) => [some (tbD t), some (.int s), some (.int g), y.1, y.2, none]) com1 (fun _ _ => True) (b := s) (j := (none, none)) trivial
      (fun p a q b j _ _ => by
        obtain ⟨y', hy⟩ := inner a b (some (lnD a)) j.2
        refine ⟨_, (some (lnD a), y'), rfl, ?_, trivial⟩
        simp -implicitDefEqProofs [gFor_ap, hy])
  have hd0 := dvs_ne (s := s) ne nl hs0
  have hdl : (dvs s t).natAbs.log2 < 9000 := (hs.dvd dvs_dvd.1 hs0).log h0 hk
  have hcom : t.foldl com1 s = com s t := rfl
  rw [hcom] at hf
  have hdv : (if 0 < s then com s t else -com s t) = dvs s t := rfl
  have cc : ∀ (x4 : Option PyData) (l : List Int), l ∈ t → gComp [4] (aName 4) gYes (gFdivX (gVar 4) (gVar 5)) (gItA (gVar 3)) [some (tbD t), some (.int s), some (.int (com s t)), some (lnD l), x4, some (.int (dvs s t))] = .ok (lnD (l.map (·.fdiv (dvs s t)))) := fun x4 l hl => by
    have := comp_of (vs := [4]) (f := aName 4) (t := gYes) (e := gFdivX (gVar 4) (gVar 5)) (gi := gItA (gVar 3)) (ρ := [some (tbD t), some (.int s), some (.int (com s t)), some (lnD l), x4, some (.int (dvs s t))]) l PyData.int (fun x => .int (x.fdiv (dvs s t))) (by simp -implicitDefEqProofs) (lim_ge (by have := h.2 l hl; omega)) (fun a ha => ⟨_, rfl, rfl, by
      simp -implicitDefEqProofs [hd0, hdl]⟩)
    rw [this]
    simp -implicitDefEqProofs
  have c2 := comp_of (vs := [3]) (f := aName 3) (t := gYes) (e := gComp [4] (aName 4) gYes (gFdivX (gVar 4) (gVar 5)) (gItA (gVar 3))) (gi := gItA (gVar 0)) (ρ := [some (tbD t), some (.int s), some (.int (com s t)), x3, x4, some (.int (dvs s t))]) t lnD (fun l => lnD (l.map (·.fdiv (dvs s t)))) (by simp -implicitDefEqProofs) (lim_ge (by have := h.1; omega)) (fun l hl => ⟨_, rfl, rfl, by
    simp -implicitDefEqProofs
    exact cc x4 l hl⟩)
  have hred : (t.map fun l => lnD (l.map (·.fdiv (dvs s t)))) = (redT t s).map lnD := by
    unfold redT
    rw [List.map_map]
    rfl
  rw [hred] at c2
  have hrs : s.fdiv (dvs s t) = redS t s := rfl
  by_cases hp : 0 < s
  · have hv : com s t = dvs s t := by unfold dvs; rw [if_pos hp]
    rw [← hv] at c2 hd0 hdl hrs
    simp -implicitDefEqProofs [gFor_ap, hf, hp, c2, hd0, hdl, hrs]
  · have hv : -com s t = dvs s t := by unfold dvs; rw [if_neg hp]
    rw [← hv] at c2 hd0 hdl hrs
    have hd1 : com s t ≠ 0 := by omega
    rw [Int.natAbs_neg] at hdl
    simp -implicitDefEqProofs [gFor_ap, hf, hp, c2, hd1, hdl, hrs]
theorem told_sm {k m n : Nat} {t : Tb} {s : Int} {r c : Nat} (h : Rect m n t) (hr : r < m) (hc : c < n) (hs : Sm k s) (hl : ∀ l ∈ t, ∀ x ∈ l, Sm k x) : ∀ l ∈ told t s r c, ∀ x ∈ l, Sm (k + k + 1) x := by
  have hcel : ∀ i j, i < m → j < n → Sm k (cel t i j) := fun i j hi hj => by
    obtain ⟨l, h1, h2⟩ := rect_get h hi
    have h3 : l[j]? = some (l[j]'(by omega)) := List.getElem?_eq_getElem _
    rw [cel_of h1 h3]
    exact hl l (List.mem_of_getElem? h1) _ (List.mem_of_getElem? h3)
  intro l hl' x hx
  have R := told_rect (s := s) (r := r) (c := c) h hr
  obtain ⟨i, hi⟩ := List.getElem?_of_mem hl'
  obtain ⟨j, hj⟩ := List.getElem?_of_mem hx
  have i1 : i < m := by rw [← R.1]; exact (List.getElem?_eq_some_iff.mp hi).1
  have j1 : j < n := by rw [← R.2 l hl']; exact (List.getElem?_eq_some_iff.mp hj).1
  obtain ⟨l', k1, k2, k3⟩ := told_cel (s := s) (r := r) (c := c) h hr i1 j1 hc
  rw [hi] at k1
  cases k1
  rw [hj] at k3
  cases k3
  split
  · split
    · exact (hs.mul hs).up (by omega)
    · exact ((hcel r j hr j1).mul hs).up (by omega)
  · split
    · exact ((hcel i c i1 hc).neg.mul hs).up (by omega)
    · exact ((hcel i j i1 j1).mul (hcel r c hr hc)).sub ((hcel r j hr j1).mul (hcel i c i1 hc))
theorem turned_ok {k m n : Nat} {t : Tb} {s : Int} {r c : Nat} (h : Rect m n t) (hr : r < m) (hc : c < n) (hm2 : m ≤ 1000) (hn2 : n ≤ 1000) (hs : Sm k s) (hs0 : s ≠ 0) (hl : ∀ l ∈ t, ∀ x ∈ l, Sm k x) (h0 : 0 < k) (hk : k + k ≤ 9000) (hp : cel t r c ≠ 0) :
    f_turned [tbD t, .int s, .int r, .int c] = .ok (.tuple [tbD (turnT t s r c), .int (turnS t s r c)]) := by
  have e : rho0 7 [tbD t, PyData.int s, PyData.int r, PyData.int c] = [some (tbD t), some (.int s), some (.int r), some (.int c), none, none, none] := rfl
  unfold f_turned fnG
  rw [e]
  unfold g_turned
  obtain ⟨a, ha, la⟩ := rect_get h hr
  have ea : t.getD r [] = a := getD_of ha
  have i1 := ix_row t r (by rw [h.1]; exact hr)
  rw [ea] at i1
  have i2 := ix_int a c (by omega)
  have hla := hl a (List.mem_of_getElem? ha)
  have hac : Sm k (a.getD c 0) := hla _ (by rw [List.getD_eq_getElem?_getD, List.getElem?_eq_getElem (by omega)]; exact List.getElem_mem _)
  have hpe : cel t r c = a.getD c 0 := by unfold cel; rw [ea]
  rw [hpe] at hp
  have cc := comp_of (vs := [6]) (f := aName 6) (t := gYes) (e := gFn 4 f_other_row (gConsA (gVar 6) (gConsA (gIx (gVar 0) (gVar 2)) (gConsA (gVar 1) (gConsA (gVar 3) gNilA))))) (gi := gItA (gVar 0)) (ρ := [some (tbD t), some (.int s), some (.int r), some (.int c), some (.int (a.getD c 0)), none, none]) t lnD (fun l => lnD (rowO l a s c)) (by simp -implicitDefEqProofs) (lim_ge (by rw [h.1]; exact hm2)) (fun l hll => ⟨_, rfl, rfl, by
    have := other_row_ok (k := k) (l := l) (a := a) (s := s) (c := c) (by rw [h.2 l hll]; exact hc) (by rw [h.2 l hll, la]) (by rw [h.2 l hll]; exact hn2) hs (hl l hll) hla h0 (by omega)
    simp -implicitDefEqProofs [i1, this]⟩)
  have ab := about_row_ok (k := k) (l := a) (s := s) (c := c) (by omega) (by omega) hs hla h0 (by omega)
  have hx : ixN m (r : Int) = some r := ixN_nat hr
  have hmu := hs.ok hac h0 h0 (by omega)
  have sm := told_sm (r := r) (c := c) h hr hc hs hl
  have rd := reduced_ok (k := k + k) (m := m) (n := n) (t := told t s r c) (s := s * a.getD c 0) (told_rect h hr) (by omega) (by omega) hm2 hn2 (hs.mul hac) (Int.mul_ne_zero hs0 hp) (by omega) hk
  have et : ((t.map fun l => lnD (rowO l a s c)).set r (lnD (rowA a s c))) = (told t s r c).map lnD := by
    unfold told
    rw [ea, ← set_row, List.map_map]
    rfl
  have eT : redT (told t s r c) (s * a.getD c 0) = turnT t s r c := by unfold turnT; rw [ea]
  have eS : redS (told t s r c) (s * a.getD c 0) = turnS t s r c := by unfold turnS; rw [ea]
  rw [eT, eS] at rd
  generalize a.getD c 0 = A at *
  simp -implicitDefEqProofs [i1, i2, hp, cc, h.1, hx, ab, et, hmu, rd]
theorem turned_no {m n : Nat} {t : Tb} {s : Int} {r c : Nat} (h : Rect m n t) (hr : r < m) (hc : c < n) (hp : cel t r c = 0) : f_turned [tbD t, .int s, .int r, .int c] = .ex 5 := by
  have e : rho0 7 [tbD t, PyData.int s, PyData.int r, PyData.int c] = [some (tbD t), some (.int s), some (.int r), some (.int c), none, none, none] := rfl
  unfold f_turned fnG
  rw [e]
  unfold g_turned
  obtain ⟨a, ha, la⟩ := rect_get h hr
  have ea : t.getD r [] = a := getD_of ha
  have i1 := ix_row t r (by rw [h.1]; exact hr)
  rw [ea] at i1
  have i2 := ix_int a c (by omega)
  have hpe : cel t r c = a.getD c 0 := by unfold cel; rw [ea]
  rw [hpe] at hp
  rw [hp] at i2
  simp -implicitDefEqProofs [i1, i2]
end K05

set_option Elab.async false
set_option linter.all false
set_option maxRecDepth 100000
namespace K05
open PySem PySem.Spec L2 Fn
def cell (ns : List Int) (k : Int) : Int := ((if ns = [] then 0 else ns.getD (k % ns.length).toNat 0) + 17 * k) * 48271 % 1000003
theorem cell_ge (ns : List Int) (k : Int) : 0 ≤ cell ns k := Int.emod_nonneg _ (by decide)
theorem cell_lt (ns : List Int) (k : Int) : cell ns k < 1000003 := Int.emod_lt_of_pos _ (by decide)
abbrev scr (ns : List Int) : PyData := D.ro (ns.map PyData.int)
theorem cell_ok (ns : List Int) (k : Int) (hk : 0 ≤ k) : f__law_cell_at [scr ns, .int k] = .ok (.int (cell ns k)) := by
  have e : rho0 3 [scr ns, PyData.int k] = [some (scr ns), some (.int k), none] := rfl
  unfold f__law_cell_at fnG
  rw [e]
  unfold g__law_cell_at cell
  by_cases h : ns = []
  · subst h
    simp [mulOk_l, mulOk_r]
  · have hl : (0 : Int) < ns.length := by
      have := List.length_pos_iff.mpr h
      omega
    have h1 : 0 ≤ k % (ns.length : Int) := Int.emod_nonneg _ (by omega)
    have h2 : k % (ns.length : Int) < ns.length := Int.emod_lt_of_pos _ hl
    have h4 : dIx (scr ns) (.int (k % ns.length)) = .ok (.int (ns.getD (k % ns.length).toNat 0)) := dIx_r _ _ (by rw [atI_map, atI_getD 0 h1 h2]; rfl)
    have hl' : 0 < ns.length := List.length_pos_iff.mpr h
    simp [mulOk_l, mulOk_r, h4, hl', h, -List.getD_eq_getElem?_getD]
open Tab
theorem whole_int (k : Int) : f__law_whole [.int k] = .ok (.bool true) := by
  have e : rho0 1 [PyData.int k] = [some (.int k)] := rfl
  unfold f__law_whole fnG
  rw [e]
  unfold g__law_whole
  simp -implicitDefEqProofs [-List.getD_eq_getElem?_getD]
abbrev prD (p : Int × Int) : PyData := .tuple [.int p.1, .int p.2]
abbrev Du := List (List (Int × Int))
abbrev luD (l : List (Int × Int)) : PyData := .list (l.map prD)
abbrev duD (u : Du) : PyData := .list (u.map luD)
theorem ix_p0 (d e : PyData) : dIx (.tuple [d, e]) (.int 0) = .ok d := rfl
theorem ix_p1 (d e : PyData) : dIx (.tuple [d, e]) (.int 1) = .ok e := rfl
def frac (u v : Int) : Int × Int := if v < 0 then (0 - u, 0 - v) else (u, v)
theorem frac_ok (u v : Int) : f__law_fraction [.int u, .int v] = .ok (prD (frac u v)) := by
  have e : rho0 2 [PyData.int u, PyData.int v] = [some (.int u), some (.int v)] := rfl
  unfold f__law_fraction fnG
  rw [e]
  unfold g__law_fraction frac
  by_cases h : v < 0
  · simp -implicitDefEqProofs [-List.getD_eq_getElem?_getD, h]
  · simp -implicitDefEqProofs [-List.getD_eq_getElem?_getD, h]
def S2 (k : Nat) (p : Int × Int) : Prop := Sm k p.1 ∧ Sm k p.2
def fallen (o t h p : Int × Int) : Int × Int := frac (o.1 * (t.2 * h.2 * p.1) - t.1 * h.1 * p.2 * o.2) (o.2 * (t.2 * h.2 * p.1))
theorem fallen_ok {k : Nat} {o t h p : Int × Int} (ho : S2 k o) (ht : S2 k t) (hh : S2 k h) (hp : S2 k p) (h0 : 0 < k) (hk : k ≤ 2000) : f__law_fallen [prD o, prD t, prD h, prD p] = .ok (prD (fallen o t h p)) := by
  have e : rho0 6 [prD o, prD t, prD h, prD p] = [some (prD o), some (prD t), some (prD h), some (prD p), none, none] := rfl
  unfold f__law_fallen fnG
  rw [e]
  unfold g__law_fallen fallen
  have a1 := ht.1.ok hh.1 h0 h0 (by omega)
  have a2 := (ht.1.mul hh.1).ok hp.2 (by omega) h0 (by omega)
  have a3 := ((ht.1.mul hh.1).mul hp.2).ok ho.2 (by omega) h0 (by omega)
  have b1 := ht.2.ok hh.2 h0 h0 (by omega)
  have b2 := (ht.2.mul hh.2).ok hp.1 (by omega) h0 (by omega)
  have c1 := ho.1.ok ((ht.2.mul hh.2).mul hp.1) h0 (by omega) (by omega)
  have c2 := ho.2.ok ((ht.2.mul hh.2).mul hp.1) h0 (by omega) (by omega)
  simp -implicitDefEqProofs [-List.getD_eq_getElem?_getD, ix_p0, ix_p1, a1, a2, a3, b1, b2, c1, c2, frac_ok]
theorem frac_sm {k : Nat} {u v : Int} (h : Sm k u) (h2 : Sm k v) : S2 k (frac u v) := by
  unfold frac
  split
  · refine ⟨?_, ?_⟩
    · show Sm k (0 - u)
      rw [Int.zero_sub]; exact h.neg
    · show Sm k (0 - v)
      rw [Int.zero_sub]; exact h2.neg
  · exact ⟨h, h2⟩
theorem fallen_sm {k : Nat} {o t h p : Int × Int} (ho : S2 k o) (ht : S2 k t) (hh : S2 k h) (hp : S2 k p) : S2 (4 * k + 1) (fallen o t h p) := by
  refine frac_sm ?_ ?_
  · exact ((ho.1.mul ((ht.2.mul hh.2).mul hp.1)).up (show _ ≤ 4 * k by omega)).sub ((((ht.1.mul hh.1).mul hp.2).mul ho.2).up (show _ ≤ 4 * k by omega))
  · exact (ho.2.mul ((ht.2.mul hh.2).mul hp.1)).up (by omega)
def ceu (u : Du) (i j : Nat) : Int × Int := (u.getD i []).getD j (0, 1)
def newU (u : Du) (r c i j : Nat) : Int × Int :=
  let p := ceu u r c
  let o := ceu u i j
  if i = r ∧ j = c then frac p.2 p.1 else if i = r then frac (o.1 * p.2) (o.2 * p.1) else if j = c then frac (0 - o.1 * p.2) (o.2 * p.1) else fallen o (ceu u i c) (ceu u r j) p
def turnU (u : Du) (n r c : Nat) : Du := (List.range u.length).map fun i => (List.range n).map fun j => newU u r c i j
def RecU (m n : Nat) (u : Du) : Prop := u.length = m ∧ ∀ l ∈ u, l.length = n
theorem ix_lu (l : List (Int × Int)) (j : Nat) (h : j < l.length) : dIx (luD l) (.int j) = .ok (prD (l.getD j (0, 1))) := dIx_l _ _ (by
  rw [atI_map, atI_getD (0, 1) (by omega) (by omega), Int.toNat_natCast]
  rfl)
theorem ix_du (u : Du) (i : Nat) (h : i < u.length) : dIx (duD u) (.int i) = .ok (luD (u.getD i [])) := dIx_l _ _ (by
  rw [atI_map, atI_getD [] (by omega) (by omega), Int.toNat_natCast]
  rfl)
theorem row_len {m n : Nat} {u : Du} (h : RecU m n u) {i : Nat} (hi : i < m) : (u.getD i []).length = n := by
  rw [List.getD_eq_getElem?_getD, List.getElem?_eq_getElem (by rw [h.1]; exact hi)]
  exact h.2 _ (List.getElem_mem _)
theorem ceu_mem {m n : Nat} {u : Du} (h : RecU m n u) {P : Int × Int → Prop} (hP : ∀ l ∈ u, ∀ p ∈ l, P p) {i j : Nat} (hi : i < m) (hj : j < n) : P (ceu u i j) := by
  have e := row_len h hi
  unfold ceu
  have e2 : u.getD i [] = u[i]'(by rw [h.1]; exact hi) := by
    rw [List.getD_eq_getElem?_getD, List.getElem?_eq_getElem (by rw [h.1]; exact hi)]
    rfl
  rw [e2] at e ⊢
  rw [List.getD_eq_getElem?_getD, List.getElem?_eq_getElem (by omega)]
  exact hP _ (List.getElem_mem _) _ (List.getElem_mem _)
theorem lturned_ok {k m n : Nat} {u : Du} {r c : Nat} (h : RecU m n u) (hr : r < m) (hc : c < n) (hm2 : m ≤ 100) (hn2 : n ≤ 100) (hl : ∀ l ∈ u, ∀ p ∈ l, S2 k p) (h0 : 0 < k) (hk : k ≤ 2000) :
    f__law_turned [duD u, .int r, .int c] = .ok (duD (turnU u n r c)) := by
  have e : rho0 9 [duD u, PyData.int r, PyData.int c] = [some (duD u), some (.int r), some (.int c), none, none, none, none, none, none] := rfl
  unfold f__law_turned fnG
  rw [e]
  unfold g__law_turned
  have ir := ix_du u r (by rw [h.1]; exact hr)
  have irc := ix_lu (u.getD r []) c (by rw [row_len h hr]; exact hc)
  have i0 : dIx (duD u) (.int 0) = .ok (luD (u.getD 0 [])) := ix_du u 0 (by rw [h.1]; omega)
  have l0 : (u.getD 0 []).length = n := row_len h (by omega)
  have hp : S2 k (ceu u r c) := ceu_mem h hl hr hc
  have ep : (u.getD r []).getD c (0, 1) = ceu u r c := rfl
  rw [ep] at irc
  generalize hP : ceu u r c = p at *
  let body := (gSeq (gSet 8 (gIx (gIx (gVar 0) (gVar 5)) (gVar 7)))
    (gIfS (gAndT (gBl (gEq (gVar 5) (gVar 1))) (gBl (gEq (gVar 7) (gVar 2)))) (gAppend 6 (gFn 2 f__law_fraction (gConsA (gIx (gVar 3) (gC (.int 1))) (gConsA (gIx (gVar 3) (gC (.int 0))) gNilA)))) (gIfS (gBl (gEq (gVar 5) (gVar 1))) (gAppend 6 (gFn 2 f__law_fraction (gConsA (gMul (gIx (gVar 8) (gC (.int 0))) (gIx (gVar 3) (gC (.int 1)))) (gConsA (gMul (gIx (gVar 8) (gC (.int 1))) (gIx (gVar 3) (gC (.int 0)))) gNilA)))) (gIfS (gBl (gEq (gVar 7) (gVar 2))) (gAppend 6 (gFn 2 f__law_fraction (gConsA (gSub' (gC (.int 0)) (gMul (gIx (gVar 8) (gC (.int 0))) (gIx (gVar 3) (gC (.int 1))))) (gConsA (gMul (gIx (gVar 8) (gC (.int 1))) (gIx (gVar 3) (gC (.int 0)))) gNilA)))) (gAppend 6 (gFn 4 f__law_fallen (gConsA (gVar 8) (gConsA (gIx (gIx (gVar 0) (gVar 5)) (gVar 2)) (gConsA (gIx (gIx (gVar 0) (gVar 1)) (gVar 7)) (gConsA (gVar 3) gNilA))))))))))
  have inner : ∀ (i : Nat), i < m → ∀ (ds : PyData) (j : Option PyData × Option PyData), ∃ j' : Option PyData × Option PyData, forL (aName 7) body ((List.range n).map fun (j : Nat) => PyData.int j) [some (duD u), some (.int r), some (.int c), some (prD p), some ds, some (.int i), some (.list []), j.1, j.2] =
      .nx [some (duD u), some (.int r), some (.int c), some (prD p), some ds, some (.int i), some (luD ((List.range n).map fun j => newU u r c i j)), j'.1, j'.2] := fun i hi ds j => by
    have ii := ix_du u i (by rw [h.1]; exact hi)
    obtain ⟨j', h1, _⟩ := for_fold (f := aName 7) (body := body) (List.range n) (fun (j : Nat) => PyData.int j) (fun (acc : List (Int × Int)) (j : Option PyData × Option PyData) => [some (duD u), some (.int r), some (.int c), some (prD p), some ds, some (.int i), some (luD acc), j.1, j.2])
      (fun acc j => acc ++ [newU u r c i j]) (fun pre acc => acc = pre.map fun j => newU u r c i j) (b := []) (j := j) rfl (fun pre a q acc jj hL hI => by
        have ha : a < n := by
          have : a ∈ List.range n := by rw [hL]; simp
          exact List.mem_range.mp this
        have hpl : pre.length < n := by
          have := congrArg List.length hL
          simp at this
          omega
        refine ⟨_, (some (.int a), some (prD (ceu u i a))), rfl, ?_, by subst hI; simp⟩
        have ia := ix_lu (u.getD i []) a (by rw [row_len h hi]; exact ha)
        have ea : (u.getD i []).getD a (0, 1) = ceu u i a := rfl
        rw [ea] at ia
        have ic := ix_lu (u.getD i []) c (by rw [row_len h hi]; exact hc)
        have ec : (u.getD i []).getD c (0, 1) = ceu u i c := rfl
        rw [ec] at ic
        have ira := ix_lu (u.getD r []) a (by rw [row_len h hr]; exact ha)
        have era : (u.getD r []).getD a (0, 1) = ceu u r a := rfl
        rw [era] at ira
        have ho : S2 k (ceu u i a) := ceu_mem h hl hi ha
        have ht : S2 k (ceu u i c) := ceu_mem h hl hi hc
        have hh : S2 k (ceu u r a) := ceu_mem h hl hr ha
        have m1 := ho.1.ok hp.2 h0 h0 (by omega)
        have m2 := ho.2.ok hp.1 h0 h0 (by omega)
        have hfa := fallen_ok ho ht hh hp h0 hk
        have hlen : acc.length < lim := lim_gt (by subst hI; rw [List.length_map]; omega)
        have enew : newU u r c i a = if i = r ∧ a = c then frac p.2 p.1 else if i = r then frac ((ceu u i a).1 * p.2) ((ceu u i a).2 * p.1) else if a = c then frac (0 - (ceu u i a).1 * p.2) ((ceu u i a).2 * p.1) else fallen (ceu u i a) (ceu u i c) (ceu u r a) p := by
          unfold newU
          rw [hP]
        rw [enew]
        by_cases c1 : i = r
        · by_cases c2 : a = c
          · subst c1
            subst c2
            simp -implicitDefEqProofs [-List.getD_eq_getElem?_getD, body, ii, ia, ic, ir, ira, ix_p0, ix_p1, frac_ok, hlen]
          · have c2' : ¬ (a : Int) = (c : Int) := by omega
            subst c1
            simp -implicitDefEqProofs [-List.getD_eq_getElem?_getD, body, ii, ia, ic, ir, ira, ix_p0, ix_p1, frac_ok, c2, c2', hlen, m1, m2]
        · have c1' : ¬ (i : Int) = (r : Int) := by omega
          by_cases c2 : a = c
          · have c2' : (a : Int) = (c : Int) := by omega
            subst c2
            simp -implicitDefEqProofs [-List.getD_eq_getElem?_getD, body, ii, ia, ic, ir, ira, ix_p0, ix_p1, frac_ok, c1, c1', hlen, m1, m2]
          · have c2' : ¬ (a : Int) = (c : Int) := by omega
            simp -implicitDefEqProofs [-List.getD_eq_getElem?_getD, body, ii, ia, ic, ir, ira, ix_p0, ix_p1, frac_ok, c1, c2, c1', c2', hlen, m1, m2, hfa])
    refine ⟨j', h1.trans ?_⟩
    have : (List.range n).foldl (fun acc j => acc ++ [newU u r c i j]) [] = (List.range n).map fun j => newU u r c i j := by assumption
    rw [this]
  obtain ⟨⟨x5, x6, x7, x8⟩, hf, hI⟩ := for_fold (f := aName 5) (body := gSeq (gSet 6 (gLst gNilA)) (gSeq (gFor (aName 7) (gRng1 (gConsA (gB bLen (gConsA (gIx (gVar 0) (gC (.int 0))) gNilA)) gNilA)) body) (gAppend 4 (gVar 6)))) (List.range u.length) (fun (i : Nat) => PyData.int i)
    (fun (acc : Du) (j : Option PyData × Option PyData × Option PyData × Option PyData) => [some (duD u), some (.int r), some (.int c), some (prD p), some (duD acc), j.1, j.2.1, j.2.2.1, j.2.2.2])
    (fun acc i => acc ++ [(List.range n).map fun j => newU u r c i j]) (fun pre acc => acc = pre.map fun i => (List.range n).map fun j => newU u r c i j) (b := []) (j := (none, none, none, none)) rfl (fun pre a q acc jj hL hI => by
      have ha : a < m := by
        have : a ∈ List.range u.length := by rw [hL]; simp
        rw [← h.1]
        exact List.mem_range.mp this
      have hpl : pre.length < m := by
        have := congrArg List.length hL
        simp at this
        have := h.1
        omega
      obtain ⟨j', hj⟩ := inner a ha (duD acc) (jj.2.2.1, jj.2.2.2)
      have hlen : acc.length < lim := lim_gt (by subst hI; rw [List.length_map]; omega)
      have hr1 := rng1_nat (m := n) (by omega)
      refine ⟨_, (some (.int a), some (luD ((List.range n).map fun j => newU u r c a j)), j'.1, j'.2), rfl, ?_, by subst hI; simp⟩
      simp -implicitDefEqProofs [-List.getD_eq_getElem?_getD, gFor_ap, i0, l0, hr1, rangeD_map, hj, hlen])
  have hr1 := rng1_nat (m := u.length) (by rw [h.1]; omega)
  simp only [List.map_nil] at hf
  rw [hI] at hf
  simp -implicitDefEqProofs [-List.getD_eq_getElem?_getD, gFor_ap, ir, irc, hr1, rangeD_map]
  have hf' := hf
  show outR ((forL (aName 5) _ _ _).seq _) = _
  refine (congrArg (fun z => outR (R.seq z (gRet (gVar 4)))) hf).trans ?_
  simp -implicitDefEqProofs [-List.getD_eq_getElem?_getD, turnU]
end K05

set_option Elab.async false
set_option linter.all false
set_option maxRecDepth 100000
namespace K05
open PySem PySem.Spec L2 Fn Tab
section
variable {P : Program} {w : World} {K : PySem.W.Frag} {mg : Str → Option Value} {base : Heap} {cls xc : Nat → Addr}
abbrev st_law : Stmt := topS 22
theorem sc_law : FnScope ["_law_script", "_law_first", "_law_high", "_law_wide", "_law_most", "_law_table", "_law_at", "_law_k", "_law_scale", "_law_due", "_law_line", "_law_number", "_law_turn", "_law_cell", "_law_row", "_law_column", "_law_handed", "_law_found"] ["_law_script"] (defScope st_law) := ⟨rfl, rfl, rfl, by decide +kernel, rfl, by decide +kernel, by decide +kernel⟩
def c_law_1 : Rho → O PyData :=
    (gComp [7] (aName 7) gYes (gSub' (gMod (gFn 2 f__law_cell_at (gConsA (gVar 0) (gConsA (gAdd (gAdd (gC (.int 2)) (gMul (gC (.int 4)) (gVar 6))) (gVar 7)) gNilA))) (gAdd (gMul (gC (.int 2)) (gVar 4)) (gC (.int 1)))) (gVar 4)) (gRng1 (gConsA (gVar 3) gNilA)))
def b_law_1 : Rho → R :=
    (gAppend 5 c_law_1)
def c_law_2 : Rho → O PyData :=
    (gComp [11] (aName 11) gYes (gTup (gConsA (gVar 11) (gConsA (gC (.int 1)) gNilA))) (gItA (gVar 10)))
def b_law_2 : Rho → R :=
    (gAppend 9 c_law_2)
def c_law_3 : Rho → O PyData :=
    (gComp [10] (aName 10) gYes (gListOf (gConsA (gVar 10) gNilA)) (gItA (gVar 5)))
def c_law_4 : Rho → O PyData :=
    (gComp [10] (aName 10) gYes (gListOf (gConsA (gVar 10) gNilA)) (gItA (gIx (gVar 17) (gC (.int 0)))))
def b_law_3 : Rho → R :=
    (gSeq (gSet 13 (gFn 2 f__law_cell_at (gConsA (gVar 0) (gConsA (gAdd (gC (.int 18)) (gVar 12)) gNilA))))
    (gSeq (gSet 14 (gMod (gVar 13) (gVar 2)))
    (gSeq (gSet 15 (gMod (gFdiv (gVar 13) (gC (.int 4))) (gVar 3)))
    (gSeq (gSet 16 c_law_3)
    (gSeq (gIfS (gBl (gEq (gIx (gIx (gIx (gVar 9) (gVar 14)) (gVar 15)) (gC (.int 0))) (gC (.int 0)))) (gRet (gAndV (gFn 4 f__law_refused (gConsA (gVar 16) (gConsA (gVar 8) (gConsA (gVar 14) (gConsA (gVar 15) gNilA))))) (gEq (gVar 16) (gVar 5)))) gNext)
    (gSeq (gSet 17 (gFn 4 f_turned (gConsA (gVar 16) (gConsA (gVar 8) (gConsA (gVar 14) (gConsA (gVar 15) gNilA))))))
    (gSeq (gIfS (gOrT (gNotT (gTru (gIsi "tuple" (gVar 17)))) (gOrT (gBl (gNe (gB bLen (gConsA (gVar 17) gNilA)) (gC (.int 2)))) (gBl (gNe (gVar 16) (gVar 5))))) (gRet (gC (.bool false))) gNext)
    (gSeq (gSet 9 (gFn 3 f__law_turned (gConsA (gVar 9) (gConsA (gVar 14) (gConsA (gVar 15) gNilA)))))
    (gSeq (gIfS (gNotT (gTru (gFn 3 f__law_alike (gConsA (gIx (gVar 17) (gC (.int 0))) (gConsA (gIx (gVar 17) (gC (.int 1))) (gConsA (gVar 9) gNilA)))))) (gRet (gC (.bool false))) gNext)
    (gSeq (gSet 5 c_law_4)
    (gSet 8 (gIx (gVar 17) (gC (.int 1))))))))))))))
def g_law : Rho → R :=
    (gSeq (gSet 1 (gFn 2 f__law_cell_at (gConsA (gVar 0) (gConsA (gC (.int 0)) gNilA))))
    (gSeq (gSet 2 (gAdd (gC (.int 1)) (gMod (gVar 1) (gC (.int 4)))))
    (gSeq (gSet 3 (gAdd (gC (.int 1)) (gMod (gFdiv (gVar 1) (gC (.int 4))) (gC (.int 4)))))
    (gSeq (gSet 4 (gC (.int 5)))
    (gSeq (gIfS (gBl (gEq (gMod (gFdiv (gVar 1) (gC (.int 16))) (gC (.int 4))) (gC (.int 1)))) (gSet 4 (gC (.int 50))) gNext)
    (gSeq (gSet 5 (gLst gNilA))
    (gSeq (gFor (aName 6) (gRng1 (gConsA (gVar 2) gNilA)) b_law_1)
    (gSeq (gSet 8 (gC (.int 1)))
    (gSeq (gSet 9 (gLst gNilA))
    (gSeq (gFor (aName 10) (gItA (gVar 5)) b_law_2)
    (gSeq (gFor (aName 12) (gRng1 (gConsA (gMod (gFdiv (gVar 1) (gC (.int 64))) (gC (.int 4))) gNilA)) b_law_3)
    (gRet (gC (.bool true))))))))))))))
def f_law : List PyData → O PyData := fnG 18 g_law
theorem ok_law (T : Top K mg xc cls) (R : RefN K mg xc 5) {f : Addr} {fd : FuncData} (F : Fun K "law" "law" st_law f fd) (hg : ∀ ns : List Int, ns.length ≤ 63 → f_law [D.ro (ns.map PyData.int)] = .ok (.bool true)) : FnOk P w K mg base (L2.CX P w) 5 f fd ["_law_script"] (spLaw K) :=
  law_fn (cls := cls) (xc := xc) F sc_law g_law [] (fun cdv A outer s H E F0 hr => ⟨_, (pss_cons (ps_set (i := 1) sc_law.nd rfl (by first | exact Or.inl rfl | exact Or.inr rfl) (pe_callO (ok__law_cell_at T) hr (by decide) (by rfl) (takes_of rfl rfl rfl rfl) (pa_cons (pv 0) (pa_cons pe_int pa_nil))))
      (pss_cons (ps_set (i := 2) sc_law.nd rfl (by first | exact Or.inl rfl | exact Or.inr rfl) (pe_op op_addAll pe_int (pe_op op_mod (pv 1) pe_int)))
      (pss_cons (ps_set (i := 3) sc_law.nd rfl (by first | exact Or.inl rfl | exact Or.inr rfl) (pe_op op_addAll pe_int (pe_op op_mod (pe_op op_fdivW (pv 1) pe_int) pe_int)))
      (pss_cons (ps_set (i := 4) sc_law.nd rfl (by first | exact Or.inl rfl | exact Or.inr rfl) pe_int)
      (pss_cons (ps_if (pt_cmpR (op_eqAll hr.units) (pe_op op_mod (pe_op op_fdivW (pv 1) pe_int) pe_int) pe_int (nomark _)) (pss_one (ps_set (i := 4) sc_law.nd rfl (by first | exact Or.inl rfl | exact Or.inr rfl) pe_int)) pss_nil)
      (pss_cons (ps_set (i := 5) sc_law.nd rfl (by first | exact Or.inl rfl | exact Or.inr rfl) (pe_lst pa_nil))
      (pss_cons (ps_for (passes_of rfl) rfl (pi_range1 (by rfl) T.n_range (pa_cons (pv 2) pa_nil)) (pg_name (i := 6) sc_law.nd rfl (by first | exact Or.inl rfl | exact Or.inr rfl)) (pss_one (ps_expr (pe_bm PySem.F.plainAttrs_list PySem.F.slot_list_append PySem.F.type_list_append mt_append (pv 5) (pa_cons (pe_lc (own := [("_law_k", 7)]) rfl sc_law.nd (pi_range1 (by rfl) T.n_range (pa_cons (pv 3) pa_nil)) (blkOk_by (N := ["_law_script", "_law_first", "_law_high", "_law_wide", "_law_most", "_law_table", "_law_at", "_law_k", "_law_scale", "_law_due", "_law_line", "_law_number", "_law_turn", "_law_cell", "_law_row", "_law_column", "_law_handed", "_law_found"]) (sc := defScope st_law) (own := [("_law_k", 7)]) (by decide +kernel)) (fun _ _ _ _ _ => (pg_name (i := 7) sc_law.nd rfl (by first | exact Or.inl rfl | exact Or.inr rfl))) (fun _ _ _ _ _ => pts_nil) (fun _ _ _ _ _ => (pe_op op_sub (pe_op op_mod (pe_callO (ok__law_cell_at T) hr (by decide) (by rfl) takes0 (pa_cons (pv 0) (pa_cons (pe_op op_addAll (pe_op op_addAll pe_int (pe_op op_mulAll pe_int (pv 6))) (pv 7)) pa_nil))) (pe_op op_addAll (pe_op op_mulAll pe_int (pv 4)) pe_int)) (pv 4)))) pa_nil)))))
      (pss_cons (ps_set (i := 8) sc_law.nd rfl (by first | exact Or.inl rfl | exact Or.inr rfl) pe_int)
      (pss_cons (ps_set (i := 9) sc_law.nd rfl (by first | exact Or.inl rfl | exact Or.inr rfl) (pe_lst pa_nil))
      (pss_cons (ps_for (passes_of rfl) rfl (pi_any (pv 5)) (pg_name (i := 10) sc_law.nd rfl (by first | exact Or.inl rfl | exact Or.inr rfl)) (pss_one (ps_expr (pe_bm PySem.F.plainAttrs_list PySem.F.slot_list_append PySem.F.type_list_append mt_append (pv 9) (pa_cons (pe_lc (own := [("_law_number", 11)]) rfl sc_law.nd (pi_any (pv 10)) (blkOk_by (N := ["_law_script", "_law_first", "_law_high", "_law_wide", "_law_most", "_law_table", "_law_at", "_law_k", "_law_scale", "_law_due", "_law_line", "_law_number", "_law_turn", "_law_cell", "_law_row", "_law_column", "_law_handed", "_law_found"]) (sc := defScope st_law) (own := [("_law_number", 11)]) (by decide +kernel)) (fun _ _ _ _ _ => (pg_name (i := 11) sc_law.nd rfl (by first | exact Or.inl rfl | exact Or.inr rfl))) (fun _ _ _ _ _ => pts_nil) (fun _ _ _ _ _ => (pe_tup (pa_cons (pv 11) (pa_cons pe_int pa_nil))))) pa_nil)))))
      (pss_cons (ps_for (passes_of rfl) rfl (pi_range1 (by rfl) T.n_range (pa_cons (pe_op op_mod (pe_op op_fdivW (pv 1) pe_int) pe_int) pa_nil)) (pg_name (i := 12) sc_law.nd rfl (by first | exact Or.inl rfl | exact Or.inr rfl)) (pss_cons (ps_set (i := 13) sc_law.nd rfl (by first | exact Or.inl rfl | exact Or.inr rfl) (pe_callO (ok__law_cell_at T) hr (by decide) (by rfl) (takes_of rfl rfl rfl rfl) (pa_cons (pv 0) (pa_cons (pe_op op_addAll pe_int (pv 12)) pa_nil))))
      (pss_cons (ps_set (i := 14) sc_law.nd rfl (by first | exact Or.inl rfl | exact Or.inr rfl) (pe_op op_mod (pv 13) (pv 2)))
      (pss_cons (ps_set (i := 15) sc_law.nd rfl (by first | exact Or.inl rfl | exact Or.inr rfl) (pe_op op_mod (pe_op op_fdivW (pv 13) pe_int) (pv 3)))
      (pss_cons (ps_setLc (i := 16) (own := [("_law_line", 10)]) rfl sc_law.nd rfl rfl (sw_true rfl rfl rfl (by decide +kernel)) (pi_any (pv 5)) (blkOk_by (N := ["_law_script", "_law_first", "_law_high", "_law_wide", "_law_most", "_law_table", "_law_at", "_law_k", "_law_scale", "_law_due", "_law_line", "_law_number", "_law_turn", "_law_cell", "_law_row", "_law_column", "_law_handed", "_law_found"]) (sc := defScope st_law) (own := [("_law_line", 10)]) (by decide +kernel)) (fun _ _ _ _ _ => (pg_name (i := 10) sc_law.nd rfl (by first | exact Or.inl rfl | exact Or.inr rfl))) (fun _ _ _ _ _ => pts_nil) (fun _ _ _ _ _ => (pe_callTy call_list_of (by rfl) T.n_list bt_list (pa_cons (pv 10) pa_nil))))
      (pss_cons (ps_if (pt_cmpR (op_eqAll hr.units) (pe_ix ix_seq (pe_ix ix_seq (pe_ix ix_seq (pv 9) (pv 14) (fun _ _ => rfl)) (pv 15) (fun _ _ => rfl)) pe_int (fun _ _ => rfl)) pe_int (nomark _)) (pss_one (ps_ret (pe_and (pe_callO (ok__law_refused T R) hr (by decide) (by rfl) (takes_of rfl rfl rfl rfl) (pa_cons (pv 16) (pa_cons (pv 8) (pa_cons (pv 14) (pa_cons (pv 15) pa_nil))))) (pe_one (pe_cmpR (op_eqAll hr.units) (pv 16) (pv 5) (nomark _)))))) pss_nil)
      (pss_cons (ps_set (i := 17) sc_law.nd rfl (by first | exact Or.inl rfl | exact Or.inr rfl) (pe_callO (ok_turned T) hr (by decide) (by rfl) (takes_of rfl rfl rfl rfl) (pa_cons (pv 16) (pa_cons (pv 8) (pa_cons (pv 14) (pa_cons (pv 15) pa_nil))))))
      (pss_cons (ps_if (PW.pt (pw_or (pt_not (pt_truth (pe_callB call_isi (by rfl) T.n_isinstance bt_isinstance (pa_cons (pv 17) (pa_cons (pe_bltn (v := .ty "tuple") (by rfl) T.n_tuple bt_tuple rfl) pa_nil))) (by intro _; rfl))) (pw_or (pt_cmpR (op_neAll hr.units) (pe_callB call_len (by rfl) T.n_len bt_len (pa_cons (pv 17) pa_nil)) pe_int (nomark _)) (pw_or1 (pt_cmpR (op_neAll hr.units) (pv 16) (pv 5) (nomark _)))))) (pss_one (ps_ret pe_bl)) pss_nil)
      (pss_cons (ps_set (i := 9) sc_law.nd rfl (by first | exact Or.inl rfl | exact Or.inr rfl) (pe_callO (ok__law_turned T) hr (by decide) (by rfl) (takes_of rfl rfl rfl rfl) (pa_cons (pv 9) (pa_cons (pv 14) (pa_cons (pv 15) pa_nil)))))
      (pss_cons (ps_if (pt_not (pt_truth (pe_callO (ok__law_alike T) hr (by decide) (by rfl) (takes_of rfl rfl rfl rfl) (pa_cons (pe_ix ix_seq (pv 17) pe_int (fun _ _ => rfl)) (pa_cons (pe_ix ix_seq (pv 17) pe_int (fun _ _ => rfl)) (pa_cons (pv 9) pa_nil)))) (by intro _; rfl))) (pss_one (ps_ret pe_bl)) pss_nil)
      (pss_cons (ps_setLc (i := 5) (own := [("_law_line", 10)]) rfl sc_law.nd rfl rfl (sw_true rfl rfl rfl (by decide +kernel)) (pi_any (pe_ix ix_seq (pv 17) pe_int (fun _ _ => rfl))) (blkOk_by (N := ["_law_script", "_law_first", "_law_high", "_law_wide", "_law_most", "_law_table", "_law_at", "_law_k", "_law_scale", "_law_due", "_law_line", "_law_number", "_law_turn", "_law_cell", "_law_row", "_law_column", "_law_handed", "_law_found"]) (sc := defScope st_law) (own := [("_law_line", 10)]) (by decide +kernel)) (fun _ _ _ _ _ => (pg_name (i := 10) sc_law.nd rfl (by first | exact Or.inl rfl | exact Or.inr rfl))) (fun _ _ _ _ _ => pts_nil) (fun _ _ _ _ _ => (pe_callTy call_list_of (by rfl) T.n_list bt_list (pa_cons (pv 10) pa_nil))))
      (pss_one (ps_set (i := 8) sc_law.nd rfl (by first | exact Or.inl rfl | exact Or.inr rfl) (pe_ix ix_seq (pv 17) pe_int (fun _ _ => rfl)))))))))))))))
      (pss_one (ps_ret pe_bl))))))))))))),
    (fs_seq (own1 := []) (fs_set (fe_call rfl (fa_cons (fe_var rfl) (fa_cons (fe_int 0) fa_nil))) rfl)
      (fs_seq (own1 := []) (fs_set (fe_op opf_add (fe_int 1) (fe_op opf_mod (fe_var rfl) (fe_int 4))) rfl)
      (fs_seq (own1 := []) (fs_set (fe_op opf_add (fe_int 1) (fe_op opf_mod (fe_op opf_fdiv (fe_var rfl) (fe_int 4)) (fe_int 4))) rfl)
      (fs_seq (own1 := []) (fs_set (fe_int 5) rfl)
      (fs_seq (own1 := []) (fs_if (own' := []) (ft_test (fe_op opf_eq (fe_op opf_mod (fe_op opf_fdiv (fe_var rfl) (fe_int 16)) (fe_int 4)) (fe_int 1))) (fs_set (fe_int 50) rfl) fs_next)
      (fs_seq (own1 := [5]) (fs_setO (own' := [5]) (fo_lst fa_nil) gLst_list rfl)
      (fs_seq (own1 := [5]) (fs_for (fi_range1 (fa_cons (fe_var rfl) fa_nil)) (fg_name rfl) aName_ex (fs_append (fe_comp (vs := [7]) (fi_range1 (fa_cons (fe_var rfl) fa_nil)) (fc_name rfl rfl) aName_ex ft_yes (fe_op opf_sub (fe_op opf_mod (fe_call rfl (fa_cons (fe_var rfl) (fa_cons (fe_op opf_add (fe_op opf_add (fe_int 2) (fe_op opf_mul (fe_int 4) (fe_var rfl))) (fe_var rfl)) fa_nil))) (fe_op opf_add (fe_op opf_mul (fe_int 2) (fe_var rfl)) (fe_int 1))) (fe_var rfl))) rfl))
      (fs_seq (own1 := [5]) (fs_set (fe_int 1) rfl)
      (fs_seq (own1 := [9, 5]) (fs_setO (own' := [9, 5]) (fo_lst fa_nil) gLst_list rfl)
      (fs_seq (own1 := [9]) (fs_freeze [9] (fs_for (fi_any (fe_var rfl)) (fg_name rfl) aName_ex (fs_append (fe_comp (vs := [11]) (fi_any (fe_var rfl)) (fc_name rfl rfl) aName_ex ft_yes (fe_tup (fa_cons (fe_var rfl) (fa_cons (fe_int 1) fa_nil)))) rfl)) rfl)
      (fs_seq (own1 := []) (fs_freeze [] (fs_for (fi_range1 (fa_cons (fe_op opf_mod (fe_op opf_fdiv (fe_var rfl) (fe_int 64)) (fe_int 4)) fa_nil)) (fg_name rfl) aName_ex (fs_weak [5] (fs_seq (own1 := []) (fs_set (fe_call rfl (fa_cons (fe_var rfl) (fa_cons (fe_op opf_add (fe_int 18) (fe_var rfl)) fa_nil))) rfl)
      (fs_seq (own1 := []) (fs_set (fe_op opf_mod (fe_var rfl) (fe_var rfl)) rfl)
      (fs_seq (own1 := []) (fs_set (fe_op opf_mod (fe_op opf_fdiv (fe_var rfl) (fe_int 4)) (fe_var rfl)) rfl)
      (fs_seq (own1 := []) (fs_set (fe_comp (vs := [10]) (fi_any (fe_var rfl)) (fc_name rfl rfl) aName_ex ft_yes (fe_listOf (fa_cons (fe_var rfl) fa_nil))) rfl)
      (fs_seq (own1 := []) (fs_if (own' := []) (ft_test (fe_op opf_eq (fe_op opf_ix (fe_op opf_ix (fe_op opf_ix (fe_var rfl) (fe_var rfl)) (fe_var rfl)) (fe_int 0)) (fe_int 0))) (fs_ret (fe_and (fe_call rfl (fa_cons (fe_var rfl) (fa_cons (fe_var rfl) (fa_cons (fe_var rfl) (fa_cons (fe_var rfl) fa_nil))))) (fe_op opf_eq (fe_var rfl) (fe_var rfl)))) fs_next)
      (fs_seq (own1 := []) (fs_set (fe_call rfl (fa_cons (fe_var rfl) (fa_cons (fe_var rfl) (fa_cons (fe_var rfl) (fa_cons (fe_var rfl) fa_nil))))) rfl)
      (fs_seq (own1 := []) (fs_if (own' := []) (ft_or (ft_not (ft_truth (fe_isi kit_tuple (fe_var rfl)))) (ft_or (ft_test (fe_op opf_ne (fe_callB cf_len (fa_cons (fe_var rfl) fa_nil)) (fe_int 2))) (ft_test (fe_op opf_ne (fe_var rfl) (fe_var rfl))))) (fs_ret (fe_bool false)) fs_next)
      (fs_seq (own1 := []) (fs_set (fe_call rfl (fa_cons (fe_var rfl) (fa_cons (fe_var rfl) (fa_cons (fe_var rfl) fa_nil)))) rfl)
      (fs_seq (own1 := []) (fs_if (own' := []) (ft_not (ft_truth (fe_call rfl (fa_cons (fe_op opf_ix (fe_var rfl) (fe_int 0)) (fa_cons (fe_op opf_ix (fe_var rfl) (fe_int 1)) (fa_cons (fe_var rfl) fa_nil)))))) (fs_ret (fe_bool false)) fs_next)
      (fs_seq (own1 := [5]) (fs_setO (own' := [5]) (fo_comp (vs := [10]) (fi_any (fe_op opf_ix (fe_var rfl) (fe_int 0))) (fc_name rfl rfl) aName_ex ft_yes (fe_listOf (fa_cons (fe_var rfl) fa_nil))) gComp_list rfl)
      (fs_set (fe_op opf_ix (fe_var rfl) (fe_int 1)) rfl))))))))))) rfl)) rfl)
      (fs_ret (fe_bool true)))))))))))))⟩) hg
end
structure Fit (m n : Nat) (t : Tb) (s : Int) (u : Du) : Prop where
  rt : Rect m n t
  ru : RecU m n u
  s1 : 1 ≤ s
  r : ∀ i j, i < m → j < n → cel t i j * (ceu u i j).2 = (ceu u i j).1 * s ∧ 0 < (ceu u i j).2
theorem alike_ok {k m n : Nat} {t : Tb} {s : Int} {u : Du} (h : Fit m n t s u) (hm2 : m ≤ 100) (hn2 : n ≤ 100) (hs : Sm k s) (hl : ∀ l ∈ t, ∀ x ∈ l, Sm k x) (hu : ∀ l ∈ u, ∀ p ∈ l, S2 k p) (h0 : 0 < k) (hk : k ≤ 400000) :
    f__law_alike [tbD t, .int s, duD u] = .ok (.bool true) := by
  have e : rho0 6 [tbD t, PyData.int s, duD u] = [some (tbD t), some (.int s), some (duD u), none, none, none] := rfl
  unfold f__law_alike fnG
  rw [e]
  unfold g__law_alike
  have s1 : ¬ s < 1 := by have := h.s1; omega
  have nl := dNe_self (nice_int t.length) (by decide)
  have lt : t.length = u.length := by rw [h.rt.1, h.ru.1]
  have hr1 := rng1_nat (m := u.length) (by rw [h.ru.1]; omega)
  have hr2 := rng1_nat (m := n) (by omega)
  have inner : ∀ i, i < m → ∀ j : Option PyData × Option PyData, ∃ j' : Option PyData × Option PyData, forL (aName 4) (gSeq (gSet 5 (gIx (gIx (gVar 0) (gVar 3)) (gVar 4)))
    (gIfS (gOrT (gNotT (gTru (gFn 1 f__law_whole (gConsA (gVar 5) gNilA)))) (gBl (gNe (gMul (gVar 5) (gIx (gIx (gIx (gVar 2) (gVar 3)) (gVar 4)) (gC (.int 1)))) (gMul (gIx (gIx (gIx (gVar 2) (gVar 3)) (gVar 4)) (gC (.int 0))) (gVar 1))))) (gRet (gC (.bool false))) gNext)) ((List.range n).map fun (j : Nat) => PyData.int j)
      [some (tbD t), some (.int s), some (duD u), some (.int i), j.1, j.2] = .nx [some (tbD t), some (.int s), some (duD u), some (.int i), j'.1, j'.2] := fun i hi j =>
    for_all (List.range n) (fun (j : Nat) => PyData.int j) (fun (j : Option PyData × Option PyData) => [some (tbD t), some (.int s), some (duD u), some (.int i), j.1, j.2]) j fun a ha jj => by
      have ha := List.mem_range.mp ha
      refine ⟨_, (some (.int a), some (.int (cel t i a))), rfl, ?_⟩
      have x1 := ix_row t i (by rw [h.rt.1]; exact hi)
      obtain ⟨l, g1, g2⟩ := rect_get h.rt hi
      have el : t.getD i [] = l := getD_of g1
      have x2 := ix_int (t.getD i []) a (by rw [el]; omega)
      have ex : (t.getD i []).getD a 0 = cel t i a := rfl
      rw [ex] at x2
      have y1 := ix_du u i (by rw [h.ru.1]; exact hi)
      have y2 := ix_lu (u.getD i []) a (by rw [row_len h.ru hi]; exact ha)
      have ey : (u.getD i []).getD a (0, 1) = ceu u i a := rfl
      rw [ey] at y2
      have hsu : S2 k (ceu u i a) := ceu_mem h.ru hu hi ha
      have hst : Sm k (cel t i a) := by
        have g3 : l[a]? = some (l[a]'(by omega)) := List.getElem?_eq_getElem _
        rw [cel_of g1 g3]
        exact hl l (List.mem_of_getElem? g1) _ (List.mem_of_getElem? g3)
      have m1 := hst.ok hsu.2 h0 h0 (by omega)
      have m2 := hsu.1.ok hs h0 h0 (by omega)
      have hre := (h.r i a hi ha).1
      simp -implicitDefEqProofs [-List.getD_eq_getElem?_getD, x1, x2, y1, y2, ix_p0, ix_p1, m1, m2, hre, whole_int]
  obtain ⟨⟨x3, x4, x5⟩, hf⟩ := for_all (f := aName 3) (body := (gSeq (gIfS (gOrT (gNotT (gTru (gIsi "list" (gIx (gVar 0) (gVar 3))))) (gBl (gNe (gB bLen (gConsA (gIx (gVar 0) (gVar 3)) gNilA)) (gB bLen (gConsA (gIx (gVar 2) (gVar 3)) gNilA))))) (gRet (gC (.bool false))) gNext)
    (gFor (aName 4) (gRng1 (gConsA (gB bLen (gConsA (gIx (gVar 2) (gVar 3)) gNilA)) gNilA)) (gSeq (gSet 5 (gIx (gIx (gVar 0) (gVar 3)) (gVar 4)))
    (gIfS (gOrT (gNotT (gTru (gFn 1 f__law_whole (gConsA (gVar 5) gNilA)))) (gBl (gNe (gMul (gVar 5) (gIx (gIx (gIx (gVar 2) (gVar 3)) (gVar 4)) (gC (.int 1)))) (gMul (gIx (gIx (gIx (gVar 2) (gVar 3)) (gVar 4)) (gC (.int 0))) (gVar 1))))) (gRet (gC (.bool false))) gNext))))) (List.range u.length) (fun (i : Nat) => PyData.int i)
    (fun (j : Option PyData × Option PyData × Option PyData) => [some (tbD t), some (.int s), some (duD u), j.1, j.2.1, j.2.2]) (none, none, none) (fun a ha jj => by
      have ha : a < m := by
        have := List.mem_range.mp ha
        rw [← h.ru.1]
        exact this
      obtain ⟨j', hj⟩ := inner a ha (jj.2.1, jj.2.2)
      refine ⟨_, (some (.int a), j'.1, j'.2), rfl, ?_⟩
      have x1 := ix_row t a (by rw [h.rt.1]; exact ha)
      obtain ⟨l, g1, g2⟩ := rect_get h.rt ha
      have el : t.getD a [] = l := getD_of g1
      rw [el] at x1
      have y1 := ix_du u a (by rw [h.ru.1]; exact ha)
      have y2 := row_len h.ru ha
      simp -implicitDefEqProofs [-List.getD_eq_getElem?_getD, gFor_ap, x1, y1, y2, g2, hr2, rangeD_map, hj])
  simp -implicitDefEqProofs [-List.getD_eq_getElem?_getD, s1, lt, whole_int, gFor_ap, hr1, rangeD_map]
  refine (congrArg (fun z => outR (R.seq z (gRet (gC (.bool true))))) hf).trans ?_
  simp -implicitDefEqProofs [-List.getD_eq_getElem?_getD]
theorem frac_rel {u v e s : Int} (h : e * v = u * s) (hv : v ≠ 0) : e * (frac u v).2 = (frac u v).1 * s ∧ 0 < (frac u v).2 := by
  unfold frac
  split
  · refine ⟨?_, ?_⟩
    · show e * (0 - v) = (0 - u) * s
      grind
    · show 0 < 0 - v
      omega
  · refine ⟨h, ?_⟩
    show 0 < v
    omega
theorem turnU_rec {m n : Nat} {u : Du} {r c : Nat} (h : RecU m n u) : RecU m n (turnU u n r c) := by
  refine ⟨by unfold turnU; rw [List.length_map, List.length_range]; exact h.1, fun l hl => ?_⟩
  unfold turnU at hl
  obtain ⟨i, _, rfl⟩ := List.mem_map.mp hl
  rw [List.length_map, List.length_range]
theorem turnU_ceu {m n : Nat} {u : Du} {r c i j : Nat} (h : RecU m n u) (hi : i < m) (hj : j < n) : ceu (turnU u n r c) i j = newU u r c i j := by
  have hi' : i < u.length := by rw [h.1]; exact hi
  unfold ceu turnU
  rw [List.getD_eq_getElem?_getD (l := List.map _ _), List.getElem?_map, List.getElem?_range hi']
  show (List.map (fun j => newU u r c i j) (List.range n)).getD j (0, 1) = _
  rw [List.getD_eq_getElem?_getD, List.getElem?_map, List.getElem?_range hj]
  rfl
theorem fit_turn {m n : Nat} {t : Tb} {s : Int} {u : Du} {r c : Nat} (h : Fit m n t s u) (hr : r < m) (hc : c < n) (hp : cel t r c ≠ 0) : Fit m n (turnT t s r c) (turnS t s r c) (turnU u n r c) := by
  obtain ⟨d, d0, d1, d2, d3, d4, _⟩ := turn_cel (s := s) h.rt hr hc (by have := h.s1; omega) hp
  refine ⟨d3, turnU_rec h.ru, d2, fun i j hi hj => ?_⟩
  rw [turnU_ceu h.ru hi hj]
  have q := d4 i j hi hj
  obtain ⟨p1, p2⟩ := h.r r c hr hc
  obtain ⟨o1, o2⟩ := h.r i j hi hj
  obtain ⟨t1, t2⟩ := h.r i c hi hc
  obtain ⟨b1, b2⟩ := h.r r j hr hj
  have hs := h.s1
  have pn : (ceu u r c).1 ≠ 0 := fun z => by
    rw [z, Int.zero_mul] at p1
    rcases Int.mul_eq_zero.mp p1 with z | z
    · exact hp z
    · omega
  unfold newU
  generalize hP : ceu u r c = P at *
  generalize hO : ceu u i j = O at *
  generalize hT : ceu u i c = T at *
  generalize hB : ceu u r j = B at *
  generalize cel (turnT t s r c) i j = e' at *
  generalize turnS t s r c = s' at *
  have cancel : ∀ a b : Int, d * a = d * b → a = b := fun a b h => Int.eq_of_mul_eq_mul_left d0 h
  simp only []
  by_cases c1 : i = r
  · rw [if_pos c1] at q
    by_cases c2 : j = c
    · rw [if_pos c2] at q
      rw [if_pos ⟨c1, c2⟩]
      refine frac_rel (cancel _ _ ?_) pn
      have a1 : d * (e' * P.1) = (d * e') * P.1 := by grind
      have a2 : d * (P.2 * s') = P.2 * (d * s') := by grind
      rw [a1, a2, q, d1]
      have : s * s * P.1 = s * (P.1 * s) := by grind
      rw [this, ← p1]
      grind
    · rw [if_neg c2] at q
      rw [if_neg (fun z => c2 z.2), if_pos c1]
      refine frac_rel (cancel _ _ ?_) (Int.mul_ne_zero (by omega) pn)
      subst c1
      have a1 : d * (e' * (O.2 * P.1)) = (d * e') * (O.2 * P.1) := by grind
      have a2 : d * (O.1 * P.2 * s') = O.1 * P.2 * (d * s') := by grind
      rw [a1, a2, q, d1]
      have hBO : B = O := by rw [← hB, ← hO]
      subst hBO
      have : cel t i j * s * (B.2 * P.1) = (cel t i j * B.2) * (P.1 * s) := by grind
      rw [this, ← p1, o1]
      grind
  · rw [if_neg c1] at q
    rw [if_neg (fun z => c1 z.1), if_neg c1]
    by_cases c2 : j = c
    · rw [if_pos c2] at q
      rw [if_pos c2]
      refine frac_rel (cancel _ _ ?_) (Int.mul_ne_zero (by omega) pn)
      subst c2
      have a1 : d * (e' * (O.2 * P.1)) = (d * e') * (O.2 * P.1) := by grind
      have a2 : d * ((0 - O.1 * P.2) * s') = (0 - O.1 * P.2) * (d * s') := by grind
      rw [a1, a2, q, d1]
      have : -cel t i j * s * (O.2 * P.1) = -((cel t i j * O.2) * (P.1 * s)) := by grind
      rw [this, ← p1, o1]
      grind
    · rw [if_neg c2] at q
      rw [if_neg c2]
      unfold fallen
      refine frac_rel (cancel _ _ ?_) (Int.mul_ne_zero (by omega) (Int.mul_ne_zero (Int.mul_ne_zero (by omega) (by omega)) pn))
      generalize cel t i j = x at *
      generalize cel t r c = p at *
      generalize cel t r j = b at *
      generalize cel t i c = y at *
      have a1 : d * (e' * (O.2 * (T.2 * B.2 * P.1))) = (d * e') * (O.2 * (T.2 * B.2 * P.1)) := by grind
      have a2 : d * ((O.1 * (T.2 * B.2 * P.1) - T.1 * B.1 * P.2 * O.2) * s') = (O.1 * (T.2 * B.2 * P.1) - T.1 * B.1 * P.2 * O.2) * (d * s') := by grind
      rw [a1, a2, q, d1]
      have l1 : (x * p - b * y) * (O.2 * (T.2 * B.2 * P.1)) = (x * O.2) * (p * (T.2 * B.2 * P.1)) - (b * B.2) * (y * T.2) * (O.2 * P.1) := by grind
      have l2 : (O.1 * (T.2 * B.2 * P.1) - T.1 * B.1 * P.2 * O.2) * (s * p) = O.1 * s * (p * (T.2 * B.2 * P.1)) - T.1 * B.1 * O.2 * s * (p * P.2) := by grind
      rw [l1, l2, o1, t1, b1, p1]
      grind
theorem turn_sm {k m n : Nat} {t : Tb} {s : Int} {r c : Nat} (h : Rect m n t) (hr : r < m) (hc : c < n) (hs : Sm k s) (hl : ∀ l ∈ t, ∀ x ∈ l, Sm k x) (hs0 : s ≠ 0) (hp : cel t r c ≠ 0) :
    Sm (k + k + 1) (turnS t s r c) ∧ ∀ l ∈ turnT t s r c, ∀ x ∈ l, Sm (k + k + 1) x := by
  have R := told_rect (s := s) (r := r) (c := c) h hr
  have sm := told_sm (r := r) (c := c) h hr hc hs hl
  have ne : told t s r c ≠ [] := fun z => by
    have := R.1
    rw [z] at this
    simp at this
    omega
  have nl : ∀ l ∈ told t s r c, l ≠ [] := fun l hl z => by
    have := R.2 l hl
    rw [z] at this
    simp at this
    omega
  have hs2 : s * cel t r c ≠ 0 := Int.mul_ne_zero hs0 hp
  have dn := dvs_ne ne nl hs2
  have hc1 : Sm k (cel t r c) := by
    obtain ⟨l, g1, g2⟩ := rect_get h hr
    have g3 : l[c]? = some (l[c]'(by omega)) := List.getElem?_eq_getElem _
    rw [cel_of g1 g3]
    exact hl l (List.mem_of_getElem? g1) _ (List.mem_of_getElem? g3)
  refine ⟨((hs.mul hc1).up (by omega)).quot redS_mul dn, fun l hl' x hx => ?_⟩
  unfold turnT redT at hl'
  obtain ⟨l', k1, rfl⟩ := List.mem_map.mp hl'
  obtain ⟨y, k2, rfl⟩ := List.mem_map.mp hx
  exact (sm l' k1 y k2).quot (fdiv_mul (dvs_dvd.2 l' k1 y k2)) dn
theorem turnU_sm {k m n : Nat} {u : Du} {r c : Nat} (h : RecU m n u) (hr : r < m) (hc : c < n) (hu : ∀ l ∈ u, ∀ p ∈ l, S2 k p) : ∀ l ∈ turnU u n r c, ∀ p ∈ l, S2 (4 * k + 1) p := fun l hl p hp => by
  unfold turnU at hl
  obtain ⟨i, hi, rfl⟩ := List.mem_map.mp hl
  obtain ⟨j, hj, rfl⟩ := List.mem_map.mp hp
  have hi : i < m := by rw [← h.1]; exact List.mem_range.mp hi
  have hj := List.mem_range.mp hj
  have a1 : S2 k (ceu u r c) := ceu_mem h hu hr hc
  have a2 : S2 k (ceu u i j) := ceu_mem h hu hi hj
  have a3 : S2 k (ceu u i c) := ceu_mem h hu hi hc
  have a4 : S2 k (ceu u r j) := ceu_mem h hu hr hj
  unfold newU
  simp only []
  split
  · exact frac_sm (a1.2.up (by omega)) (a1.1.up (by omega))
  · split
    · exact frac_sm ((a2.1.mul a1.2).up (by omega)) ((a2.2.mul a1.1).up (by omega))
    · split
      · exact frac_sm (by rw [Int.zero_sub]; exact (a2.1.mul a1.2).neg.up (by omega)) ((a2.2.mul a1.1).up (by omega))
      · exact fallen_sm a2 a3 a4 a1
end K05

set_option Elab.async false
set_option linter.all false
set_option maxRecDepth 100000
namespace K05
open PySem PySem.Spec L2 Fn Tab
theorem nice_tb (t : Tb) : Nice 2 (tbD t) := nice_list fun d hd => by
  obtain ⟨l, _, rfl⟩ := List.mem_map.mp hd
  exact nice_list nice_mapI
def sz : Nat → Nat
  | 0 => 6
  | i + 1 => sz i + sz i + 1
def su : Nat → Nat
  | 0 => 6
  | i + 1 => 4 * su i + 1
theorem sz_le : ∀ i, i < 3 → 6 ≤ sz i ∧ sz i ≤ 27 ∧ 6 ≤ su i ∧ su i ≤ 101
  | 0, _ => by decide
  | 1, _ => by decide
  | 2, _ => by decide
theorem refused_ok {m n : Nat} {t : Tb} {s : Int} {r c : Nat} (h : Rect m n t) (hr : r < m) (hc : c < n) (hp : cel t r c = 0) : f__law_refused [tbD t, .int s, .int r, .int c] = .ok (.bool true) := by
  show isX (f_turned [tbD t, .int s, .int r, .int c]) = _
  rw [turned_no h hr hc hp]
  rfl
def row0 (ns : List Int) (n : Nat) (M : Int) (a : Nat) : List Int := (List.range n).map fun (k : Nat) => cell ns (2 + 4 * (a : Int) + (k : Int)) % (2 * M + 1) - M
theorem row0_len (ns : List Int) (n : Nat) (M : Int) (a : Nat) : (row0 ns n M a).length = n := by
  unfold row0
  rw [List.length_map, List.length_range]
theorem row0_sm (ns : List Int) (n : Nat) (M : Int) (a : Nat) (h0 : 0 < M) (h1 : M ≤ 50) : ∀ x ∈ row0 ns n M a, Sm 6 x := fun x hx => by
  unfold row0 at hx
  obtain ⟨k, _, rfl⟩ := List.mem_map.mp hx
  have h1 := Int.emod_nonneg (cell ns (2 + 4 * (a : Int) + (k : Int))) (show 2 * M + 1 ≠ 0 by omega)
  have h2 := Int.emod_lt_of_pos (cell ns (2 + 4 * (a : Int) + (k : Int))) (show 0 < 2 * M + 1 by omega)
  unfold Sm
  omega
def tab0 (ns : List Int) (m n : Nat) (M : Int) : Tb := (List.range m).map (row0 ns n M)
def due0 (t : Tb) : Du := t.map (·.map fun x => (x, 1))
/-- a turn of the great loop -/
theorem turn_body (ns : List Int) {m n i : Nat} {t : Tb} {s : Int} {u : Du} (hi : i < 3) (h : Fit m n t s u) (hm : 1 ≤ m) (hn : 1 ≤ n) (hm2 : m ≤ 4) (hn2 : n ≤ 4) (hs : Sm (sz i) s) (hl : ∀ l ∈ t, ∀ x ∈ l, Sm (sz i) x) (hu : ∀ l ∈ u, ∀ p ∈ l, S2 (su i) p)
    (x1 x4 x6 x7 x10 x11 x13 x14 x15 x16 x17 : Option PyData) :
    b_law_3 [some (scr ns), x1, some (.int m), some (.int n), x4, some (tbD t), x6, x7, some (.int s), some (duD u), x10, x11, some (.int i), x13, x14, x15, x16, x17] = .rt (.bool true) ∨
    ∃ t' s' u' y13 y14 y15 y16 y17, Fit m n t' s' u' ∧ Sm (sz (i + 1)) s' ∧ (∀ l ∈ t', ∀ x ∈ l, Sm (sz (i + 1)) x) ∧ (∀ l ∈ u', ∀ p ∈ l, S2 (su (i + 1)) p) ∧
      b_law_3 [some (scr ns), x1, some (.int m), some (.int n), x4, some (tbD t), x6, x7, some (.int s), some (duD u), x10, x11, some (.int i), x13, x14, x15, x16, x17] =
        .nx [some (scr ns), x1, some (.int m), some (.int n), x4, some (tbD t'), x6, x7, some (.int s'), some (duD u'), x10, x11, some (.int i), y13, y14, y15, y16, y17] := by
  obtain ⟨z1, z2, z3, z4⟩ := sz_le i hi
  have hc := cell_ok ns (18 + (i : Int)) (by omega)
  generalize hC : cell ns (18 + (i : Int)) = C at *
  obtain ⟨r, r1, r2⟩ := nat_of (c := C) (m := (m : Int)) (by omega)
  obtain ⟨c, c1, c2⟩ := nat_of (c := C / 4) (m := (n : Int)) (by omega)
  have hr : r < m := by omega
  have hcc : c < n := by omega
  have l4 : Nat.log2 4 < 9000 := by decide
  have hm0 : 0 < m := by omega
  have hn0 : 0 < n := by omega
  have c3 : c_law_3 [some (scr ns), x1, some (.int m), some (.int n), x4, some (tbD t), x6, x7, some (.int s), some (duD u), x10, x11, some (.int i), some (.int C), some (.int r), some (.int c), x16, x17] = .ok (tbD t) := by
    unfold c_law_3
    rw [comp_of t lnD lnD (by simp -implicitDefEqProofs [-List.getD_eq_getElem?_getD]) (lim_ge (by rw [h.rt.1]; omega)) (fun a ha => ⟨_, rfl, rfl, by simp -implicitDefEqProofs [-List.getD_eq_getElem?_getD]⟩)]
  have y1 := ix_du u r (by rw [h.ru.1]; exact hr)
  have y2 := ix_lu (u.getD r []) c (by rw [row_len h.ru hr]; exact hcc)
  have ey : (u.getD r []).getD c (0, 1) = ceu u r c := rfl
  rw [ey] at y2
  have hfit := h.r r c hr hcc
  have hs1 := h.s1
  unfold b_law_3
  by_cases hz : (ceu u r c).1 = 0
  · refine .inl ?_
    have hp : cel t r c = 0 := by
      rw [hz, Int.zero_mul] at hfit
      rcases Int.mul_eq_zero.mp hfit.1 with z | z
      · exact z
      · omega
    have rf := refused_ok (s := s) h.rt hr hcc hp
    have eqs := dEq_self (nice_tb t) (by decide)
    simp -implicitDefEqProofs [-List.getD_eq_getElem?_getD, hc, r1, c1, l4, hm0, hn0, c3, y1, y2, ix_p0, hz, rf, eqs]
  · have hp : cel t r c ≠ 0 := fun z => by
      rw [z, Int.zero_mul] at hfit
      rcases Int.mul_eq_zero.mp hfit.1.symm with z | z
      · exact hz z
      · omega
    have hfit' := fit_turn h hr hcc hp
    obtain ⟨sm1, sm2⟩ := turn_sm h.rt hr hcc hs hl (by omega) hp
    have sm3 := turnU_sm h.ru hr hcc hu
    have tk := turned_ok (k := sz i) h.rt hr hcc (by omega) (by omega) hs (by omega) hl (by omega) (by omega) hp
    have lt := lturned_ok (k := su i) h.ru hr hcc (by omega) (by omega) hu (by omega) (by omega)
    have al := alike_ok (k := 4 * su i + 1) hfit' (by omega) (by omega) (sm1.up (by
      have : sz i + sz i + 1 ≤ 4 * su i + 1 := by
        match i, hi with
        | 0, _ => decide
        | 1, _ => decide
        | 2, _ => decide
      exact this)) (fun l hl x hx => (sm2 l hl x hx).up (by
        match i, hi with
        | 0, _ => decide
        | 1, _ => decide
        | 2, _ => decide)) sm3 (by omega) (by omega)
    have ns1 := dNe_self (nice_tb t) (by decide)
    have n2 := dNe_int 2 2
    refine .inr ⟨turnT t s r c, turnS t s r c, turnU u n r c, some (.int C), some (.int r), some (.int c), some (tbD t), some (.tuple [tbD (turnT t s r c), .int (turnS t s r c)]), hfit', sm1, sm2, sm3, ?_⟩
    have c4 : c_law_4 [some (scr ns), x1, some (.int m), some (.int n), x4, some (tbD t), x6, x7, some (.int s), some (duD (turnU u n r c)), x10, x11, some (.int i), some (.int C), some (.int r), some (.int c), some (tbD t), some (.tuple [tbD (turnT t s r c), .int (turnS t s r c)])] = .ok (tbD (turnT t s r c)) := by
      unfold c_law_4
      rw [comp_of (turnT t s r c) lnD lnD (by simp -implicitDefEqProofs [-List.getD_eq_getElem?_getD, ix_p0]) (lim_ge (by rw [hfit'.rt.1]; omega)) (fun a ha => ⟨_, rfl, rfl, by simp -implicitDefEqProofs [-List.getD_eq_getElem?_getD]⟩)]
    simp -implicitDefEqProofs [-List.getD_eq_getElem?_getD, hc, r1, c1, l4, hm0, hn0, c3, y1, y2, ix_p0, ix_p1, hz, tk, lt, al, ns1, c4]
theorem law_true (ns : List Int) : f_law [scr ns] = .ok (.bool true) := by
  have e : rho0 18 [scr ns] = [some (scr ns), none, none, none, none, none, none, none, none, none, none, none, none, none, none, none, none, none] := rfl
  unfold f_law fnG
  rw [e]
  unfold g_law
  have c0 := cell_ok ns 0 (by decide)
  have g0 := cell_ge ns 0
  generalize hF : cell ns 0 = F at *
  have l4 : Nat.log2 4 < 9000 := by decide
  have l16 : Nat.log2 16 < 9000 := by decide
  have l64 : Nat.log2 64 < 9000 := by decide
  obtain ⟨m, hm, m1, m4⟩ : ∃ m : Nat, 1 + F % 4 = m ∧ 1 ≤ m ∧ m ≤ 4 := ⟨(1 + F % 4).toNat, by omega, by omega, by omega⟩
  obtain ⟨n, hn, n1, n4⟩ : ∃ n : Nat, 1 + F / 4 % 4 = n ∧ 1 ≤ n ∧ n ≤ 4 := ⟨(1 + F / 4 % 4).toNat, by omega, by omega, by omega⟩
  obtain ⟨q, hq, q3⟩ : ∃ q : Nat, F / 64 % 4 = q ∧ q ≤ 3 := ⟨(F / 64 % 4).toNat, by omega, by omega⟩
  obtain ⟨M, hM, M1, M2⟩ : ∃ M : Int, (gIfS (gBl (gEq (gMod (gFdiv (gVar 1) (gC (.int 16))) (gC (.int 4))) (gC (.int 1)))) (gSet 4 (gC (.int 50))) gNext) [some (scr ns), some (.int F), some (.int m), some (.int n), some (.int 5), none, none, none, none, none, none, none, none, none, none, none, none, none] = .nx [some (scr ns), some (.int F), some (.int m), some (.int n), some (.int M), none, none, none, none, none, none, none, none, none, none, none, none, none] ∧ 0 < M ∧ M ≤ 50 := by
    by_cases h : F / 16 % 4 = 1
    · exact ⟨50, by simp -implicitDefEqProofs [-List.getD_eq_getElem?_getD, h, l16], by decide, by decide⟩
    · exact ⟨5, by simp -implicitDefEqProofs [-List.getD_eq_getElem?_getD, h, l16], by decide, by decide⟩
  obtain ⟨⟨x6, x7⟩, f1, _⟩ := for_fold (f := aName 6) (body := b_law_1) (List.range m) (fun (i : Nat) => PyData.int i) (fun (acc : Tb) (j : Option PyData × Option PyData) => [some (scr ns), some (.int F), some (.int m), some (.int n), some (.int M), some (tbD acc), j.1, j.2, none, none, none, none, none, none, none, none, none, none])
    (fun acc a => acc ++ [row0 ns n M a]) (fun pre acc => acc = pre.map (row0 ns n M)) (b := []) (j := (none, none)) rfl (fun pre a qq acc jj hL hI => by
      refine ⟨_, (some (.int a), jj.2), rfl, ?_, by subst hI; simp⟩
      have hpl : pre.length < m := by
        have := congrArg List.length hL
        simp at this
        omega
      have hlen : acc.length < lim := lim_gt (by subst hI; rw [List.length_map]; omega)
      have hr1 := rng1_nat (m := n) (by omega)
      have cc : c_law_1 [some (scr ns), some (.int F), some (.int m), some (.int n), some (.int M), some (tbD acc), some (.int a), jj.2, none, none, none, none, none, none, none, none, none, none] = .ok (lnD (row0 ns n M a)) := by
        unfold c_law_1
        rw [comp_of (List.range n) (fun (i : Nat) => PyData.int i) (fun (k : Nat) => .int (cell ns (2 + 4 * (a : Int) + (k : Int)) % (2 * M + 1) - M)) (by simp -implicitDefEqProofs [-List.getD_eq_getElem?_getD, hr1, rangeD_map]) (lim_ge (by rw [List.length_range]; omega)) (fun k hk => ⟨_, rfl, rfl, by
          have ck := cell_ok ns (2 + 4 * (a : Int) + (k : Int)) (by omega)
          have p1 : 0 < 2 * M + 1 := by omega
          simp -implicitDefEqProofs [-List.getD_eq_getElem?_getD, mulOk_l, ck, p1]⟩)]
        show _ = O.ok (PyData.list (List.map PyData.int (row0 ns n M a)))
        unfold row0
        rw [List.map_map]
        rfl
      unfold b_law_1
      simp -implicitDefEqProofs [-List.getD_eq_getElem?_getD, cc, hlen])
  have hm0 : (List.range m).foldl (fun acc a => acc ++ [row0 ns n M a]) [] = tab0 ns m n M := by assumption
  rw [hm0] at f1
  generalize hT : tab0 ns m n M = t at *
  have ht : Rect m n t ∧ ∀ l ∈ t, ∀ x ∈ l, Sm 6 x := by
    subst hT
    refine ⟨⟨by unfold tab0; rw [List.length_map, List.length_range], fun l hl => ?_⟩, fun l hl => ?_⟩
    · unfold tab0 at hl
      obtain ⟨a, _, rfl⟩ := List.mem_map.mp hl
      exact row0_len _ _ _ _
    · unfold tab0 at hl
      obtain ⟨a, _, rfl⟩ := List.mem_map.mp hl
      exact row0_sm _ _ _ _ M1 M2
  obtain ⟨⟨x10, x11⟩, f2, _⟩ := for_fold (f := aName 10) (body := b_law_2) t lnD (fun (acc : Du) (j : Option PyData × Option PyData) => [some (scr ns), some (.int F), some (.int m), some (.int n), some (.int M), some (tbD t), x6, x7, some (.int 1), some (duD acc), j.1, j.2, none, none, none, none, none, none])
    (fun acc a => acc ++ [a.map fun x => (x, 1)]) (fun pre acc => acc = pre.map fun a => a.map fun x => (x, 1)) (b := []) (j := (none, none)) rfl (fun pre a qq acc jj hL hI => by
      refine ⟨_, (some (lnD a), jj.2), rfl, ?_, by subst hI; simp⟩
      have hpl : pre.length < m := by
        have := congrArg List.length hL
        have := ht.1.1
        simp at *
        omega
      have hlen : acc.length < lim := lim_gt (by subst hI; rw [List.length_map]; omega)
      have cc : c_law_2 [some (scr ns), some (.int F), some (.int m), some (.int n), some (.int M), some (tbD t), x6, x7, some (.int 1), some (duD acc), some (lnD a), jj.2, none, none, none, none, none, none] = .ok (luD (a.map fun x => (x, 1))) := by
        unfold c_law_2
        rw [comp_of a PyData.int (fun x => prD (x, 1)) (by simp -implicitDefEqProofs [-List.getD_eq_getElem?_getD]) (lim_ge (by have := ht.1.2 a (by rw [hL]; simp); omega)) (fun k hk => ⟨_, rfl, rfl, by simp -implicitDefEqProofs [-List.getD_eq_getElem?_getD]⟩)]
        show _ = O.ok (PyData.list (List.map prD (List.map (fun x => (x, (1 : Int))) a)))
        rw [List.map_map]
        rfl
      unfold b_law_2
      simp -implicitDefEqProofs [-List.getD_eq_getElem?_getD, cc, hlen])
  have hu0 : t.foldl (fun acc a => acc ++ [a.map fun x => (x, (1 : Int))]) [] = due0 t := by assumption
  rw [hu0] at f2
  have fit0 : Fit m n t 1 (due0 t) := by
    refine ⟨ht.1, ⟨by unfold due0; rw [List.length_map]; exact ht.1.1, fun l hl => ?_⟩, by decide, fun i j hi hj => ?_⟩
    · unfold due0 at hl
      obtain ⟨a, ha, rfl⟩ := List.mem_map.mp hl
      rw [List.length_map]
      exact ht.1.2 a ha
    · obtain ⟨l, g1, g2⟩ := rect_get ht.1 hi
      have g3 : l[j]? = some (l[j]'(by omega)) := List.getElem?_eq_getElem _
      have e1 := cel_of g1 g3
      have e2 : ceu (due0 t) i j = (l[j]'(by omega), 1) := by
        unfold ceu due0
        rw [List.getD_eq_getElem?_getD (l := List.map _ _), List.getElem?_map, g1]
        show (l.map fun x => (x, (1 : Int))).getD j (0, 1) = _
        rw [List.getD_eq_getElem?_getD, List.getElem?_map, g3]
        rfl
      rw [e1, e2]
      exact ⟨rfl, show (0 : Int) < 1 by decide⟩
  have su0 : ∀ l ∈ due0 t, ∀ p ∈ l, S2 6 p := fun l hl p hp => by
    unfold due0 at hl
    obtain ⟨a, ha, rfl⟩ := List.mem_map.mp hl
    obtain ⟨x, hx, rfl⟩ := List.mem_map.mp hp
    exact ⟨ht.2 a ha x hx, by show (1 : Int).natAbs < 2 ^ 6; decide⟩
  have f3 : (fun r => r = .rt (.bool true) ∨ ∃ ρ, r = .nx ρ) (forL (aName 12) b_law_3 ((List.range q).map fun (i : Nat) => PyData.int i) [some (scr ns), some (.int F), some (.int m), some (.int n), some (.int M), some (tbD t), x6, x7, some (.int 1), some (duD (due0 t)), x10, x11, none, none, none, none, none, none]) := by
    refine for_leave (fun i ρ => ∃ t s u x12 x13 x14 x15 x16 x17, Fit m n t s u ∧ Sm (sz i) s ∧ (∀ l ∈ t, ∀ x ∈ l, Sm (sz i) x) ∧ (∀ l ∈ u, ∀ p ∈ l, S2 (su i) p) ∧ ρ = [some (scr ns), some (.int F), some (.int m), some (.int n), some (.int M), some (tbD t), x6, x7, some (.int s), some (duD u), x10, x11, x12, x13, x14, x15, x16, x17]) (fun r => r = .rt (.bool true) ∨ ∃ ρ, r = .nx ρ)
      ⟨t, 1, due0 t, none, none, none, none, none, none, fit0, by show (1 : Int).natAbs < 2 ^ 6; decide, ht.2, su0, rfl⟩ (fun i d ρ hd hI => ?_) (fun ρ _ => .inr ⟨_, rfl⟩)
    obtain ⟨t, s, u, x12, x13, x14, x15, x16, x17, hf, h1, h2, h3, rfl⟩ := hI
    have hi : i < q := by
      have := (List.getElem?_eq_some_iff.mp hd).1
      rw [List.length_map, List.length_range] at this
      exact this
    rw [List.getElem?_map, List.getElem?_range hi] at hd
    cases hd
    refine ⟨_, rfl, ?_⟩
    rcases turn_body ns (by omega) hf m1 n1 m4 n4 h1 h2 h3 (some (.int F)) (some (.int M)) x6 x7 x10 x11 x13 x14 x15 x16 x17 with hb | ⟨t', s', u', y13, y14, y15, y16, y17, k1, k2, k3, k4, hb⟩
    · exact .inr (.inl ⟨_, hb, .inl rfl⟩)
    · exact .inl ⟨_, .inl hb, t', s', u', _, y13, y14, y15, y16, y17, k1, k2, k3, k4, rfl⟩
  have r1 := rng1_nat (m := m) (by omega)
  have r3 := rng1_nat (m := q) (by omega)
  have f1' : (gFor (aName 6) (gRng1 (gConsA (gVar 2) gNilA)) b_law_1) [some (scr ns), some (.int F), some (.int m), some (.int n), some (.int M), some (.list []), none, none, none, none, none, none, none, none, none, none, none, none] = .nx [some (scr ns), some (.int F), some (.int m), some (.int n), some (.int M), some (tbD t), x6, x7, none, none, none, none, none, none, none, none, none, none] := by
    rw [gFor_ap]
    simp -implicitDefEqProofs [-List.getD_eq_getElem?_getD, r1, rangeD_map]
    exact f1
  have f2' : (gFor (aName 10) (gItA (gVar 5)) b_law_2) [some (scr ns), some (.int F), some (.int m), some (.int n), some (.int M), some (tbD t), x6, x7, some (.int 1), some (.list []), none, none, none, none, none, none, none, none] = .nx [some (scr ns), some (.int F), some (.int m), some (.int n), some (.int M), some (tbD t), x6, x7, some (.int 1), some (duD (due0 t)), x10, x11, none, none, none, none, none, none] := by
    rw [gFor_ap]
    simp -implicitDefEqProofs [-List.getD_eq_getElem?_getD]
    exact f2
  have f3' : ∃ z, (gFor (aName 12) (gRng1 (gConsA (gMod (gFdiv (gVar 1) (gC (.int 64))) (gC (.int 4))) gNilA)) b_law_3) [some (scr ns), some (.int F), some (.int m), some (.int n), some (.int M), some (tbD t), x6, x7, some (.int 1), some (duD (due0 t)), x10, x11, none, none, none, none, none, none] = z ∧ (z = .rt (.bool true) ∨ ∃ ρ, z = .nx ρ) := by
    refine ⟨_, rfl, ?_⟩
    rw [gFor_ap]
    simp -implicitDefEqProofs [-List.getD_eq_getElem?_getD, l64, hq, r3, rangeD_map]
    exact f3
  obtain ⟨z, hz, hz2⟩ := f3'
  simp -implicitDefEqProofs [-List.getD_eq_getElem?_getD, c0, hm, hn, l4, hM, f1', f2', hz, -gIfS_ap]
  rcases hz2 with rfl | ⟨ρ, rfl⟩
  · rfl
  · rfl
end K05

set_option Elab.async false
set_option linter.all false
set_option maxRecDepth 100000
namespace K05
open PySem PySem.Spec L2 Fn
theorem all_mk {P : Program} {w : World} {K : PySem.W.Frag} {h : Heap} {mg : Str → Option Value} {fa : Addr} (X : K.In h) (G : h.Ns mainGlobals mg) (hfa : mg "law" = some (.ref fa))
    {f0 : Addr} {od0 an0 : Option Addr} {sl0 : Array (Option Value)} {oc0 kV0 dc0 pm0 cd0 ct0 : Value}
    {f1 : Addr} {od1 an1 : Option Addr} {sl1 : Array (Option Value)} {oc1 kV1 dc1 pm1 cd1 ct1 : Value}
    {f2 : Addr} {od2 an2 : Option Addr} {sl2 : Array (Option Value)} {oc2 kV2 dc2 pm2 cd2 ct2 : Value}
    {f3 : Addr} {od3 an3 : Option Addr} {sl3 : Array (Option Value)} {oc3 kV3 dc3 pm3 cd3 ct3 : Value}
    {f4 : Addr} {od4 an4 : Option Addr} {sl4 : Array (Option Value)} {oc4 kV4 dc4 pm4 cd4 ct4 : Value}
    {f5 : Addr} {od5 an5 : Option Addr} {sl5 : Array (Option Value)} {oc5 kV5 dc5 pm5 cd5 ct5 : Value}
    {f6 : Addr} {od6 an6 : Option Addr} {sl6 : Array (Option Value)} {oc6 kV6 dc6 pm6 cd6 ct6 : Value}
    {f7 : Addr} {od7 an7 : Option Addr} {sl7 : Array (Option Value)} {oc7 kV7 dc7 pm7 cd7 ct7 : Value}
    {f8 : Addr} {od8 an8 : Option Addr} {sl8 : Array (Option Value)} {oc8 kV8 dc8 pm8 cd8 ct8 : Value}
    {f9 : Addr} {od9 an9 : Option Addr} {sl9 : Array (Option Value)} {oc9 kV9 dc9 pm9 cd9 ct9 : Value}
    {f10 : Addr} {od10 an10 : Option Addr} {sl10 : Array (Option Value)} {oc10 kV10 dc10 pm10 cd10 ct10 : Value}
    {f11 : Addr} {od11 an11 : Option Addr} {sl11 : Array (Option Value)} {oc11 kV11 dc11 pm11 cd11 ct11 : Value}
    {x0 : Addr}
    {x1 : Addr}
    {x2 : Addr}
    {x3 : Addr}
    {x4 : Addr}
    {x5 : Addr}
    {x6 : Addr}
    (a0 : PySem.W.nsIn K mainGlobals "turned" = some (some (.ref f0)))
    (l0 : K.lookup f0 = some ⟨oc0, od0, .func (PySem.W.fnOf "turned" "turned" (defArgs (topS 10)) (defBody (topS 10)) (defScope (topS 10)) .none kV0 dc0 pm0 an0 cd0 ct0), sl0⟩)
    (c0 : PySem.W.codeIn K cd0 "turned" = true)
    (k0 : PySem.W.keepIn K (.ref f0) = true)
    (a1 : PySem.W.nsIn K mainGlobals "about_row" = some (some (.ref f1)))
    (l1 : K.lookup f1 = some ⟨oc1, od1, .func (PySem.W.fnOf "about_row" "about_row" (defArgs (topS 11)) (defBody (topS 11)) (defScope (topS 11)) .none kV1 dc1 pm1 an1 cd1 ct1), sl1⟩)
    (c1 : PySem.W.codeIn K cd1 "about_row" = true)
    (k1 : PySem.W.keepIn K (.ref f1) = true)
    (a2 : PySem.W.nsIn K mainGlobals "other_row" = some (some (.ref f2)))
    (l2 : K.lookup f2 = some ⟨oc2, od2, .func (PySem.W.fnOf "other_row" "other_row" (defArgs (topS 12)) (defBody (topS 12)) (defScope (topS 12)) .none kV2 dc2 pm2 an2 cd2 ct2), sl2⟩)
    (c2 : PySem.W.codeIn K cd2 "other_row" = true)
    (k2 : PySem.W.keepIn K (.ref f2) = true)
    (a3 : PySem.W.nsIn K mainGlobals "reduced" = some (some (.ref f3)))
    (l3 : K.lookup f3 = some ⟨oc3, od3, .func (PySem.W.fnOf "reduced" "reduced" (defArgs (topS 13)) (defBody (topS 13)) (defScope (topS 13)) .none kV3 dc3 pm3 an3 cd3 ct3), sl3⟩)
    (c3 : PySem.W.codeIn K cd3 "reduced" = true)
    (k3 : PySem.W.keepIn K (.ref f3) = true)
    (a4 : PySem.W.nsIn K mainGlobals "_law_cell_at" = some (some (.ref f4)))
    (l4 : K.lookup f4 = some ⟨oc4, od4, .func (PySem.W.fnOf "_law_cell_at" "_law_cell_at" (defArgs (topS 15)) (defBody (topS 15)) (defScope (topS 15)) .none kV4 dc4 pm4 an4 cd4 ct4), sl4⟩)
    (c4 : PySem.W.codeIn K cd4 "_law_cell_at" = true)
    (k4 : PySem.W.keepIn K (.ref f4) = true)
    (a5 : PySem.W.nsIn K mainGlobals "_law_whole" = some (some (.ref f5)))
    (l5 : K.lookup f5 = some ⟨oc5, od5, .func (PySem.W.fnOf "_law_whole" "_law_whole" (defArgs (topS 16)) (defBody (topS 16)) (defScope (topS 16)) .none kV5 dc5 pm5 an5 cd5 ct5), sl5⟩)
    (c5 : PySem.W.codeIn K cd5 "_law_whole" = true)
    (k5 : PySem.W.keepIn K (.ref f5) = true)
    (a6 : PySem.W.nsIn K mainGlobals "_law_fraction" = some (some (.ref f6)))
    (l6 : K.lookup f6 = some ⟨oc6, od6, .func (PySem.W.fnOf "_law_fraction" "_law_fraction" (defArgs (topS 17)) (defBody (topS 17)) (defScope (topS 17)) .none kV6 dc6 pm6 an6 cd6 ct6), sl6⟩)
    (c6 : PySem.W.codeIn K cd6 "_law_fraction" = true)
    (k6 : PySem.W.keepIn K (.ref f6) = true)
    (a7 : PySem.W.nsIn K mainGlobals "_law_fallen" = some (some (.ref f7)))
    (l7 : K.lookup f7 = some ⟨oc7, od7, .func (PySem.W.fnOf "_law_fallen" "_law_fallen" (defArgs (topS 18)) (defBody (topS 18)) (defScope (topS 18)) .none kV7 dc7 pm7 an7 cd7 ct7), sl7⟩)
    (c7 : PySem.W.codeIn K cd7 "_law_fallen" = true)
    (k7 : PySem.W.keepIn K (.ref f7) = true)
    (a8 : PySem.W.nsIn K mainGlobals "_law_turned" = some (some (.ref f8)))
    (l8 : K.lookup f8 = some ⟨oc8, od8, .func (PySem.W.fnOf "_law_turned" "_law_turned" (defArgs (topS 19)) (defBody (topS 19)) (defScope (topS 19)) .none kV8 dc8 pm8 an8 cd8 ct8), sl8⟩)
    (c8 : PySem.W.codeIn K cd8 "_law_turned" = true)
    (k8 : PySem.W.keepIn K (.ref f8) = true)
    (a9 : PySem.W.nsIn K mainGlobals "_law_alike" = some (some (.ref f9)))
    (l9 : K.lookup f9 = some ⟨oc9, od9, .func (PySem.W.fnOf "_law_alike" "_law_alike" (defArgs (topS 20)) (defBody (topS 20)) (defScope (topS 20)) .none kV9 dc9 pm9 an9 cd9 ct9), sl9⟩)
    (c9 : PySem.W.codeIn K cd9 "_law_alike" = true)
    (k9 : PySem.W.keepIn K (.ref f9) = true)
    (a10 : PySem.W.nsIn K mainGlobals "_law_refused" = some (some (.ref f10)))
    (l10 : K.lookup f10 = some ⟨oc10, od10, .func (PySem.W.fnOf "_law_refused" "_law_refused" (defArgs (topS 21)) (defBody (topS 21)) (defScope (topS 21)) .none kV10 dc10 pm10 an10 cd10 ct10), sl10⟩)
    (c10 : PySem.W.codeIn K cd10 "_law_refused" = true)
    (k10 : PySem.W.keepIn K (.ref f10) = true)
    (a11 : PySem.W.nsIn K mainGlobals "law" = some (some (.ref f11)))
    (l11 : K.lookup f11 = some ⟨oc11, od11, .func (PySem.W.fnOf "law" "law" (defArgs (topS 22)) (defBody (topS 22)) (defScope (topS 22)) .none kV11 dc11 pm11 an11 cd11 ct11), sl11⟩)
    (c11 : PySem.W.codeIn K cd11 "law" = true)
    (k11 : PySem.W.keepIn K (.ref f11) = true)
    (xg0 : PySem.W.nsIn K mainGlobals "CutError" = some (some (.ref x0)))
    (xk0 : PySem.W.keepIn K (.ref x0) = true)
    (xx0 : PySem.W.excIn K x0 [.type "ValueError", .type "Exception", .type "BaseException", .type "object"] "ValueError.__new__" = true)
    (xb0 : PySem.W.subIn K (.ref x0) (.type "BaseException") = some true)
    (xt0 : PySem.W.typeIn K (.ref x0) = some (.type "type"))
    (xg1 : PySem.W.nsIn K mainGlobals "BadProblem" = some (some (.ref x1)))
    (xk1 : PySem.W.keepIn K (.ref x1) = true)
    (xx1 : PySem.W.excIn K x1 [.type "ValueError", .type "Exception", .type "BaseException", .type "object"] "ValueError.__new__" = true)
    (xb1 : PySem.W.subIn K (.ref x1) (.type "BaseException") = some true)
    (xt1 : PySem.W.typeIn K (.ref x1) = some (.type "type"))
    (xg2 : PySem.W.nsIn K mainGlobals "BadPoint" = some (some (.ref x2)))
    (xk2 : PySem.W.keepIn K (.ref x2) = true)
    (xx2 : PySem.W.excIn K x2 [.type "ValueError", .type "Exception", .type "BaseException", .type "object"] "ValueError.__new__" = true)
    (xb2 : PySem.W.subIn K (.ref x2) (.type "BaseException") = some true)
    (xt2 : PySem.W.typeIn K (.ref x2) = some (.type "type"))
    (xg3 : PySem.W.nsIn K mainGlobals "BadBox" = some (some (.ref x3)))
    (xk3 : PySem.W.keepIn K (.ref x3) = true)
    (xx3 : PySem.W.excIn K x3 [.type "ValueError", .type "Exception", .type "BaseException", .type "object"] "ValueError.__new__" = true)
    (xb3 : PySem.W.subIn K (.ref x3) (.type "BaseException") = some true)
    (xt3 : PySem.W.typeIn K (.ref x3) = some (.type "type"))
    (xg4 : PySem.W.nsIn K mainGlobals "BadWeights" = some (some (.ref x4)))
    (xk4 : PySem.W.keepIn K (.ref x4) = true)
    (xx4 : PySem.W.excIn K x4 [.type "ValueError", .type "Exception", .type "BaseException", .type "object"] "ValueError.__new__" = true)
    (xb4 : PySem.W.subIn K (.ref x4) (.type "BaseException") = some true)
    (xt4 : PySem.W.typeIn K (.ref x4) = some (.type "type"))
    (xg5 : PySem.W.nsIn K mainGlobals "NoTurn" = some (some (.ref x5)))
    (xk5 : PySem.W.keepIn K (.ref x5) = true)
    (xx5 : PySem.W.excIn K x5 [.type "ValueError", .type "Exception", .type "BaseException", .type "object"] "ValueError.__new__" = true)
    (xb5 : PySem.W.subIn K (.ref x5) (.type "BaseException") = some true)
    (xt5 : PySem.W.typeIn K (.ref x5) = some (.type "type"))
    (xg6 : PySem.W.nsIn K mainGlobals "BadText" = some (some (.ref x6)))
    (xk6 : PySem.W.keepIn K (.ref x6) = true)
    (xx6 : PySem.W.excIn K x6 [.type "ValueError", .type "Exception", .type "BaseException", .type "object"] "ValueError.__new__" = true)
    (xb6 : PySem.W.subIn K (.ref x6) (.type "BaseException") = some true)
    (xt6 : PySem.W.typeIn K (.ref x6) = some (.type "type"))
    (m_gcd : PySem.W.nsIn K mainGlobals "gcd" = some (some (.builtin "math.gcd")))
    (n_bool : PySem.W.nsIn K mainGlobals "bool" = some none)
    (n_int : PySem.W.nsIn K mainGlobals "int" = some none)
    (n_isinstance : PySem.W.nsIn K mainGlobals "isinstance" = some none)
    (n_len : PySem.W.nsIn K mainGlobals "len" = some none)
    (n_list : PySem.W.nsIn K mainGlobals "list" = some none)
    (n_range : PySem.W.nsIn K mainGlobals "range" = some none)
    (n_tuple : PySem.W.nsIn K mainGlobals "tuple" = some none)
    (n_zip : PySem.W.nsIn K mainGlobals "zip" = some none)
    (r_hn : PySem.W.specialIn K (.builtin "object.__class__") "__get__" = some (some (.builtin "getset_descriptor.__get__")))
    (r_ht : PySem.W.takesIn K (.builtin "object.__class__") = some true)
    (r_nV : PySem.W.nsIn K mainGlobals "ValueError" = some none)
    (r_i0 : PySem.W.isClsIn K x0 = true)
    (r_i1 : PySem.W.isClsIn K x1 = true)
    (r_i2 : PySem.W.isClsIn K x2 = true)
    (r_i3 : PySem.W.isClsIn K x3 = true)
    (r_i4 : PySem.W.isClsIn K x4 = true)
    (r_i5 : PySem.W.isClsIn K x5 = true)
    (r_i6 : PySem.W.isClsIn K x6 = true)
    (r5_hg : PySem.W.findIn K (.ref x5) "__getattribute__" = some (some (.builtin "BaseException.__getattribute__")))
    (r5_hk : PySem.W.findIn K (.ref x5) "__getattr__" = some none)
    (r5_hd : PySem.W.hasDictIn K x5 = true)
    (r5_ha : PySem.W.findIn K (.ref x5) "__class__" = some (some (.builtin "object.__class__")))
    (r5_hm : PySem.W.mroIn K x5 (.type "object") = some true)
    (r5_s : PySem.W.subIn K (.ref x5) (.ref x5) = some true)
    (r5_kV : PySem.W.subIn K (.ref x5) (.type "ValueError") = some true)
    (r5_k0 : PySem.W.subIn K (.ref x5) (.ref x0) = some true)
    (r5_k1 : PySem.W.subIn K (.ref x5) (.ref x1) = some false)
    (r5_k2 : PySem.W.subIn K (.ref x5) (.ref x2) = some false)
    (r5_k3 : PySem.W.subIn K (.ref x5) (.ref x3) = some false)
    (r5_k4 : PySem.W.subIn K (.ref x5) (.ref x4) = some false)
    (r5_k6 : PySem.W.subIn K (.ref x5) (.ref x6) = some false) :
    ∃ fd : FuncData, (∀ (s : Shared) (v : Value), BindsTo s fd ⟨[v], []⟩ [("_law_script", v)]) ∧ ∀ base : Heap, K.In base → base.Ns mainGlobals mg → FnOk P w K mg base (L2.CX P w) 5 fa fd ["_law_script"] (spLaw K) := by
  have e := hfa.symm.trans (PySem.W.mg_of X G a11)
  cases e
  have D0 : DefAt K mg "turned" (topS 10) ["table", "scale", "row", "column"] := by
    have F := fun_mk (st := topS 10) l0 c0 k0
    exact ⟨_, _, F, PySem.W.mg_of X G a0, F.binds fun _ _ _ _ _ _ us hl => match us, hl with | [_, _, _, _], _ => rfl⟩
  have D1 : DefAt K mg "about_row" (topS 11) ["line", "scale", "column"] := by
    have F := fun_mk (st := topS 11) l1 c1 k1
    exact ⟨_, _, F, PySem.W.mg_of X G a1, F.binds fun _ _ _ _ _ _ us hl => match us, hl with | [_, _, _], _ => rfl⟩
  have D2 : DefAt K mg "other_row" (topS 12) ["line", "about_line", "scale", "column"] := by
    have F := fun_mk (st := topS 12) l2 c2 k2
    exact ⟨_, _, F, PySem.W.mg_of X G a2, F.binds fun _ _ _ _ _ _ us hl => match us, hl with | [_, _, _, _], _ => rfl⟩
  have D3 : DefAt K mg "reduced" (topS 13) ["table", "scale"] := by
    have F := fun_mk (st := topS 13) l3 c3 k3
    exact ⟨_, _, F, PySem.W.mg_of X G a3, F.binds fun _ _ _ _ _ _ us hl => match us, hl with | [_, _], _ => rfl⟩
  have D4 : DefAt K mg "_law_cell_at" (topS 15) ["_law_script", "_law_k"] := by
    have F := fun_mk (st := topS 15) l4 c4 k4
    exact ⟨_, _, F, PySem.W.mg_of X G a4, F.binds fun _ _ _ _ _ _ us hl => match us, hl with | [_, _], _ => rfl⟩
  have D5 : DefAt K mg "_law_whole" (topS 16) ["_law_found"] := by
    have F := fun_mk (st := topS 16) l5 c5 k5
    exact ⟨_, _, F, PySem.W.mg_of X G a5, F.binds fun _ _ _ _ _ _ us hl => match us, hl with | [_], _ => rfl⟩
  have D6 : DefAt K mg "_law_fraction" (topS 17) ["_law_above", "_law_below"] := by
    have F := fun_mk (st := topS 17) l6 c6 k6
    exact ⟨_, _, F, PySem.W.mg_of X G a6, F.binds fun _ _ _ _ _ _ us hl => match us, hl with | [_, _], _ => rfl⟩
  have D7 : DefAt K mg "_law_fallen" (topS 18) ["_law_one", "_law_two", "_law_three", "_law_pivot"] := by
    have F := fun_mk (st := topS 18) l7 c7 k7
    exact ⟨_, _, F, PySem.W.mg_of X G a7, F.binds fun _ _ _ _ _ _ us hl => match us, hl with | [_, _, _, _], _ => rfl⟩
  have D8 : DefAt K mg "_law_turned" (topS 19) ["_law_table", "_law_row", "_law_column"] := by
    have F := fun_mk (st := topS 19) l8 c8 k8
    exact ⟨_, _, F, PySem.W.mg_of X G a8, F.binds fun _ _ _ _ _ _ us hl => match us, hl with | [_, _, _], _ => rfl⟩
  have D9 : DefAt K mg "_law_alike" (topS 20) ["_law_table", "_law_scale", "_law_due"] := by
    have F := fun_mk (st := topS 20) l9 c9 k9
    exact ⟨_, _, F, PySem.W.mg_of X G a9, F.binds fun _ _ _ _ _ _ us hl => match us, hl with | [_, _, _], _ => rfl⟩
  have D10 : DefAt K mg "_law_refused" (topS 21) ["_law_table", "_law_scale", "_law_row", "_law_column"] := by
    have F := fun_mk (st := topS 21) l10 c10 k10
    exact ⟨_, _, F, PySem.W.mg_of X G a10, F.binds fun _ _ _ _ _ _ us hl => match us, hl with | [_, _, _, _], _ => rfl⟩
  have D11 : DefAt K mg "law" (topS 22) ["_law_script"] := by
    have F := fun_mk (st := topS 22) l11 c11 k11
    exact ⟨_, _, F, PySem.W.mg_of X G a11, F.binds fun _ _ _ _ _ _ us hl => match us, hl with | [_], _ => rfl⟩
  have T : Top K mg (fun n => match n with | 0 => x0 | 1 => x1 | 2 => x2 | 3 => x3 | 4 => x4 | 5 => x5 | _ => x6) (fun _ => x0) :=
    { n_bool := PySem.W.mg_none_of X G n_bool,
      n_int := PySem.W.mg_none_of X G n_int,
      n_isinstance := PySem.W.mg_none_of X G n_isinstance,
      n_len := PySem.W.mg_none_of X G n_len,
      n_list := PySem.W.mg_none_of X G n_list,
      n_range := PySem.W.mg_none_of X G n_range,
      n_tuple := PySem.W.mg_none_of X G n_tuple,
      n_zip := PySem.W.mg_none_of X G n_zip,
      m_gcd := PySem.W.mg_of X G m_gcd,
      e_CutError := ⟨PySem.W.mg_of X G xg0, xk0, xx0, xb0, xt0⟩,
      e_BadProblem := ⟨PySem.W.mg_of X G xg1, xk1, xx1, xb1, xt1⟩,
      e_BadPoint := ⟨PySem.W.mg_of X G xg2, xk2, xx2, xb2, xt2⟩,
      e_BadBox := ⟨PySem.W.mg_of X G xg3, xk3, xx3, xb3, xt3⟩,
      e_BadWeights := ⟨PySem.W.mg_of X G xg4, xk4, xx4, xb4, xt4⟩,
      e_NoTurn := ⟨PySem.W.mg_of X G xg5, xk5, xx5, xb5, xt5⟩,
      e_BadText := ⟨PySem.W.mg_of X G xg6, xk6, xx6, xb6, xt6⟩,
      d_turned := D0,
      d_about_row := D1,
      d_other_row := D2,
      d_reduced := D3,
      d__law_cell_at := D4,
      d__law_whole := D5,
      d__law_fraction := D6,
      d__law_fallen := D7,
      d__law_turned := D8,
      d__law_alike := D9,
      d__law_refused := D10,
      d_law := D11 }
  have R5 : RefN K mg (fun n => match n with | 0 => x0 | 1 => x1 | 2 => x2 | 3 => x3 | 4 => x4 | 5 => x5 | _ => x6) 5 :=
    ⟨⟨r5_hg, r5_hk, xb5, r5_hd, r5_ha, r_hn, r_ht, r5_hm⟩, PySem.W.exm_ref xb5 r5_hd xt5 r5_s, fun j hj => match j, hj with
      | 0, _ => kit_own r5_s r_i0 xt0 r5_k0
      | 1, _ => kit_own r5_s r_i1 xt1 r5_k1
      | 2, _ => kit_own r5_s r_i2 xt2 r5_k2
      | 3, _ => kit_own r5_s r_i3 xt3 r5_k3
      | 4, _ => kit_own r5_s r_i4 xt4 r5_k4
      | 5, _ => kit_own r5_s r_i5 xt5 r5_s
      | 6, _ => kit_own r5_s r_i6 xt6 r5_k6
      , kit_ty2 (by decide +kernel) (fun z => by cases z) r5_kV, PySem.W.mg_none_of X G r_nV⟩
  exact ⟨_, fun s v => .of_eq rfl, fun base _ _ => ok_law T R5 (fun_mk (st := topS 22) l11 c11 k11) fun ns _ => law_true ns⟩
theorem walk {l : PySem.W.OpenLaw} {q : Program} {loose : List Str} {XP : (Str → Option Value) → Heap → Prop} {YP : World → Heap → Prop} {d : DefRec} {K : Params → PySem.W.Frag} (hn : l.most = some 63) (hdf : d.params.defaults = [])
    (hY : ∀ (w : World) (h : Heap), YP w h → (K w.params).In h)
    (F : ∀ (w : World) (mg : Str → Option Value) (fa : Addr) (h : Heap), (K w.params).In h → h.Ns mainGlobals mg → mg d.name = some (.ref fa) →
      ∃ fd : FuncData, (∀ (s : Shared) (u : Value), BindsTo s fd ⟨[u], []⟩ [("_law_script", u)]) ∧ ∀ base : Heap, (K w.params).In base → base.Ns mainGlobals mg → FnOk l.prog w (K w.params) mg base (L2.CX l.prog w) 5 fa fd ["_law_script"] (spLaw (K w.params))) :
    PySem.W.WalkO q loose XP YP l.row.toRowW d [] (fun f vs => PySem.call f vs) :=
  L2.walk_of (n := 63) (k := 5) (x := "_law_script") (CX := fun w => L2.CX l.prog w) (sp := fun w => spLaw (K w.params)) hn (by decide) hdf ⟨rfl, by decide, by decide⟩ hY F (fun _ _ a ns hl _ hS => ⟨a, ns, rfl, hS, hl, fun _ => rfl⟩) fun _ _ _ _ _ z => by
    obtain ⟨_, _, _, _, _, _, _, _, _, _, _, _, z⟩ := z
    exact z
end K05

set_option Elab.async false
set_option linter.all false
set_option maxRecDepth 100000
open PySem PySem.W PyProof.Rows in
set_option maxRecDepth 100000 in
set_option maxHeartbeats 0 in
theorem PySem.Challenge.cw_wholecut_k05_tables_turned_holds : PySem.Challenge.rw_wholecut_k05_tables_turned.Holds := by
  w_on; o_law; k_head; (case hw => w_witness2)
  k_fill
  refine K05.walk (l := PySem.Challenge.rw_wholecut_k05_tables_turned) rfl rfl (fun w h Y => PySem.W.kIn_of Y) ?F
  case F =>
    intro w mg fa h KX G hmg
    refine' K05.all_mk KX G hmg ?a0 ?l0 ?c0 ?k0 ?a1 ?l1 ?c1 ?k1 ?a2 ?l2 ?c2 ?k2 ?a3 ?l3 ?c3 ?k3 ?a4 ?l4 ?c4 ?k4 ?a5 ?l5 ?c5 ?k5 ?a6 ?l6 ?c6 ?k6 ?a7 ?l7 ?c7 ?k7 ?a8 ?l8 ?c8 ?k8 ?a9 ?l9 ?c9 ?k9 ?a10 ?l10 ?c10 ?k10 ?a11 ?l11 ?c11 ?k11 ?xg0 ?xk0 ?xx0 ?xb0 ?xt0 ?xg1 ?xk1 ?xx1 ?xb1 ?xt1 ?xg2 ?xk2 ?xx2 ?xb2 ?xt2 ?xg3 ?xk3 ?xx3 ?xb3 ?xt3 ?xg4 ?xk4 ?xx4 ?xb4 ?xt4 ?xg5 ?xk5 ?xx5 ?xb5 ?xt5 ?xg6 ?xk6 ?xx6 ?xb6 ?xt6 ?m_gcd ?n_bool ?n_int ?n_isinstance ?n_len ?n_list ?n_range ?n_tuple ?n_zip ?r_hn ?r_ht ?r_nV ?r_i0 ?r_i1 ?r_i2 ?r_i3 ?r_i4 ?r_i5 ?r_i6 ?r5_hg ?r5_hk ?r5_hd ?r5_ha ?r5_hm ?r5_s ?r5_kV ?r5_k0 ?r5_k1 ?r5_k2 ?r5_k3 ?r5_k4 ?r5_k6
    (case a0 => k_is)
    (case l0 => k_is)
    (case c0 => k_is)
    (case k0 => k_is)
    (case a1 => k_is)
    (case l1 => k_is)
    (case c1 => k_is)
    (case k1 => k_is)
    (case a2 => k_is)
    (case l2 => k_is)
    (case c2 => k_is)
    (case k2 => k_is)
    (case a3 => k_is)
    (case l3 => k_is)
    (case c3 => k_is)
    (case k3 => k_is)
    (case a4 => k_is)
    (case l4 => k_is)
    (case c4 => k_is)
    (case k4 => k_is)
    (case a5 => k_is)
    (case l5 => k_is)
    (case c5 => k_is)
    (case k5 => k_is)
    (case a6 => k_is)
    (case l6 => k_is)
    (case c6 => k_is)
    (case k6 => k_is)
    (case a7 => k_is)
    (case l7 => k_is)
    (case c7 => k_is)
    (case k7 => k_is)
    (case a8 => k_is)
    (case l8 => k_is)
    (case c8 => k_is)
    (case k8 => k_is)
    (case a9 => k_is)
    (case l9 => k_is)
    (case c9 => k_is)
    (case k9 => k_is)
    (case a10 => k_is)
    (case l10 => k_is)
    (case c10 => k_is)
    (case k10 => k_is)
    (case a11 => k_is)
    (case l11 => k_is)
    (case c11 => k_is)
    (case k11 => k_is)
    (case xg0 => k_is)
    (case xk0 => k_is)
    (case xx0 => k_exc)
    (case xb0 => k_is)
    (case xt0 => k_is)
    (case xg1 => k_is)
    (case xk1 => k_is)
    (case xx1 => k_exc)
    (case xb1 => k_is)
    (case xt1 => k_is)
    (case xg2 => k_is)
    (case xk2 => k_is)
    (case xx2 => k_exc)
    (case xb2 => k_is)
    (case xt2 => k_is)
    (case xg3 => k_is)
    (case xk3 => k_is)
    (case xx3 => k_exc)
    (case xb3 => k_is)
    (case xt3 => k_is)
    (case xg4 => k_is)
    (case xk4 => k_is)
    (case xx4 => k_exc)
    (case xb4 => k_is)
    (case xt4 => k_is)
    (case xg5 => k_is)
    (case xk5 => k_is)
    (case xx5 => k_exc)
    (case xb5 => k_is)
    (case xt5 => k_is)
    (case xg6 => k_is)
    (case xk6 => k_is)
    (case xx6 => k_exc)
    (case xb6 => k_is)
    (case xt6 => k_is)
    (case m_gcd => k_is)
    (case n_bool => k_is)
    (case n_int => k_is)
    (case n_isinstance => k_is)
    (case n_len => k_is)
    (case n_list => k_is)
    (case n_range => k_is)
    (case n_tuple => k_is)
    (case n_zip => k_is)
    (case r_hn => k_is)
    (case r_ht => k_is)
    (case r_nV => k_is)
    (case r_i0 => k_is)
    (case r_i1 => k_is)
    (case r_i2 => k_is)
    (case r_i3 => k_is)
    (case r_i4 => k_is)
    (case r_i5 => k_is)
    (case r_i6 => k_is)
    (case r5_hg => k_is)
    (case r5_hk => k_is)
    (case r5_hd => k_is)
    (case r5_ha => k_is)
    (case r5_hm => k_is)
    (case r5_s => first | rfl | k_is)
    (case r5_kV => k_is)
    (case r5_k0 => k_is)
    (case r5_k1 => k_is)
    (case r5_k2 => k_is)
    (case r5_k3 => k_is)
    (case r5_k4 => k_is)
    (case r5_k6 => k_is)

