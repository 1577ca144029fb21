import PyProof.Rows.All
import HandS.ForMost
import HandS.IsInst
import HandS.Wide
import HandS.WideBits
import HandS.More
import KE.DataEq
import HandS.Dict
import PyProof.TypeEq
import PyProof.InstEq
import KE.KRevSl
import HandS.Zip
import HandS.TryOnly
import HandS.Style
import PyProof.ReprLen
import HandS.Star
import HandS.Defaults
import HandS.DictTup
import HandS.SortInts
import KE.LtSeq
import HandS.Conv
import KE.SortData
import HandS.DictComp
import HandS.WordsDict
import HandS.ListItems
import KE.KDictList
import HandS.RevRange
import HandS.SetFor
import HandS.Strs
import HandS.Text
import HandS.FStr
import HandS.ReplaceLit
import KE.KMathGC
import HandS.EndBits
import HandS.GenList
import HandS.ExcOwn
import KE.DataCmp
import HandS.ReplaceList
import PySem.Challenge.RW_accordions_k14_whole_strings_of_plans_an
set_option Elab.async false
set_option linter.all false
set_option maxRecDepth 100000
namespace TL
open PySem PySem.Spec L2
open PyProof.Rows hiding St
abbrev D := PyData

def kD : Key → D
  | .inl i => .int i
  | .inr x => .str x
mutual
inductive Rp (K : PySem.W.Frag) (H : Hp) : V → D → Prop
  | n : Rp K H .non .none
  | b (k : Bool) : Rp K H (.bl k) (.bool k)
  | i (k : Int) : Rp K H (.int k) (.int k)
  | s (k : Str) : Rp K H (.str k) (.str k)
  | l {a : Addr} {vs : List V} {ds : List D} (h : SqL K H a vs) (r : RpL K H vs ds) : Rp K H (.ref a) (.list ds)
  | t {a : Addr} {vs : List V} {ds : List D} (h : SqT K H a vs) (r : RpL K H vs ds) : Rp K H (.ref a) (.tuple ds)
  | d {a : Addr} {vs : List (Key × V)} {kvs : List (D × D)} (h : Rd H a (.dK vs)) (r : RpK K H vs kvs) : Rp K H (.ref a) (.dict kvs)
inductive RpL (K : PySem.W.Frag) (H : Hp) : List V → List D → Prop
  | nil : RpL K H [] []
  | cons {v : V} {vs : List V} {d : D} {ds : List D} (h : Rp K H v d) (r : RpL K H vs ds) : RpL K H (v :: vs) (d :: ds)
inductive RpK (K : PySem.W.Frag) (H : Hp) : List (Key × V) → List (D × D) → Prop
  | nil : RpK K H [] []
  | cons {k : Key} {v : V} {vs : List (Key × V)} {d : D} {ds : List (D × D)} (h : Rp K H v d) (r : RpK K H vs ds) : RpK K H ((k, v) :: vs) ((kD k, d) :: ds)
end
theorem same_rdO {H H' : Hp} {a : Addr} {u : HO} (e : Same H H') (h : Rd H a u) : Rd H' a u := h.elim (fun h => .inl (e _ _ h)) fun ⟨o, h⟩ => .inr ⟨o, e _ _ h⟩

theorem same_seqT {K : PySem.W.Frag} {H H' : Hp} {a : Addr} {vs : List V} (e : Same H H') (h : SqT K H a vs) : SqT K H' a vs := by
  rcases h with (h | ⟨o, h⟩) | h
  · exact .inl (.inl (e _ _ h))
  · exact .inl (.inr ⟨o, e _ _ h⟩)
  · exact .inr h

theorem same_rd {K : PySem.W.Frag} {H H' : Hp} {a : Addr} {vs : List V} (e : Same H H') (h : SqL K H a vs) : SqL K H' a vs := e.seq h

mutual
theorem Rp.up {K : PySem.W.Frag} {H H' : Hp} (e : Same H H') : ∀ (d : D) (v : V), Rp K H v d → Rp K H' v d
  | .none, _, h => by cases h; exact .n
  | .bool _, _, h => by cases h; exact .b _
  | .int _, _, h => by cases h; exact .i _
  | .str _, _, h => by cases h; exact .s _
  | .list ds, _, h => by cases h with | l h r => exact .l (same_rd e h) (RpL.up e ds _ r)
  | .tuple ds, _, h => by cases h with | t h r => exact .t (same_seqT e h) (RpL.up e ds _ r)
  | .dict kvs, _, h => by cases h with | d h r => exact .d (same_rdO e h) (RpK.up e kvs _ r)
theorem RpL.up {K : PySem.W.Frag} {H H' : Hp} (e : Same H H') : ∀ (ds : List D) (vs : List V), RpL K H vs ds → RpL K H' vs ds
  | [], _, h => by cases h; exact .nil
  | d :: ds, _, h => by cases h with | cons h r => exact .cons (Rp.up e d _ h) (RpL.up e ds _ r)
theorem RpK.up {K : PySem.W.Frag} {H H' : Hp} (e : Same H H') : ∀ (ds : List (D × D)) (vs : List (Key × V)), RpK K H vs ds → RpK K H' vs ds
  | [], _, h => by cases h; exact .nil
  | (_, d) :: ds, _, h => by cases h with | cons h r => exact .cons (Rp.up e d _ h) (RpK.up e ds _ r)
end
theorem Rp.sm {K : PySem.W.Frag} {H H' : Hp} {v : V} {d : D} (h : Rp K H v d) (e : Same H H') : Rp K H' v d := Rp.up e d v h
theorem RpK.sm {K : PySem.W.Frag} {H H' : Hp} {vs : List (Key × V)} {ds : List (D × D)} (h : RpK K H vs ds) (e : Same H H') : RpK K H' vs ds := RpK.up e ds vs h
theorem RpL.sm {K : PySem.W.Frag} {H H' : Hp} {vs : List V} {ds : List D} (h : RpL K H vs ds) (e : Same H H') : RpL K H' vs ds := RpL.up e ds vs h

section
variable {K : PySem.W.Frag} {H : Hp}
theorem RpL.len : ∀ {vs : List V} {ds : List D}, RpL K H vs ds → vs.length = ds.length
  | [], _, h => by cases h; rfl
  | _ :: _, _, h => by cases h with | cons _ r => simp [r.len]
theorem RpK.len : ∀ {vs : List (Key × V)} {ds : List (D × D)}, RpK K H vs ds → vs.length = ds.length
  | [], _, h => by cases h; rfl
  | _ :: _, _, h => by cases h with | cons _ r => simp [r.len]
theorem RpL.get : ∀ {vs : List V} {ds : List D} {i : Nat} {d : D}, RpL K H vs ds → ds[i]? = some d → ∃ v, vs[i]? = some v ∧ Rp K H v d
  | _, [], _, _, _, e => by simp at e
  | _, _ :: _, 0, _, h, e => by
    cases h with
    | cons h r => simp only [List.getElem?_cons_zero, Option.some.injEq] at e; subst e; exact ⟨_, rfl, h⟩
  | _, _ :: _, i + 1, _, h, e => by
    cases h with
    | cons h r => simpa using RpL.get r (by simpa using e)
theorem RpL.app : ∀ {vs us : List V} {ds es : List D}, RpL K H vs ds → RpL K H us es → RpL K H (vs ++ us) (ds ++ es)
  | [], _, _, _, h, g => by cases h; exact g
  | _ :: _, _, _, _, h, g => by cases h with | cons h r => exact .cons h (r.app g)
theorem RpL.set {v : V} {d : D} (g : Rp K H v d) : ∀ {vs : List V} {ds : List D} (i : Nat), RpL K H vs ds → RpL K H (vs.set i v) (ds.set i d)
  | [], _, i, h => by cases h; exact .nil
  | _ :: _, _, 0, h => by cases h with | cons h r => exact .cons g r
  | _ :: _, _, i + 1, h => by cases h with | cons h r => exact .cons h (RpL.set g i r)
theorem RpL.take : ∀ {vs : List V} {ds : List D} (n : Nat), RpL K H vs ds → RpL K H (vs.take n) (ds.take n)
  | [], _, n, h => by cases h; simp; exact .nil
  | _ :: _, _, 0, h => .nil
  | _ :: _, _, n + 1, h => by cases h with | cons h r => exact .cons h (RpL.take n r)
theorem RpL.drop : ∀ {vs : List V} {ds : List D} (n : Nat), RpL K H vs ds → RpL K H (vs.drop n) (ds.drop n)
  | [], _, n, h => by cases h; simp; exact .nil
  | _ :: _, _, 0, h => h
  | _ :: _, _, n + 1, h => by cases h with | cons h r => exact RpL.drop n r
theorem RpL.one {v : V} {d : D} (h : Rp K H v d) : RpL K H [v] [d] := .cons h .nil
theorem RpL.isBools : ∀ {vs : List V} {ns : List Bool}, RpL K H vs (ns.map PyData.bool) → vs = ns.map V.bl
  | [], [], _ => rfl
  | [], _ :: _, h => by cases h
  | _ :: _, [], h => by cases h
  | _ :: _, _ :: _, h => by cases h with | cons h r => cases h; rw [r.isBools]; rfl
end
section
variable {X : Cx} {pins : List (Addr × Obj)} {σ : St} {H : Hp} {s : Shared}
mutual
theorem Rp.rd (I : Inv X pins σ H s) : ∀ (d : D) (v : V) (u : Value), Rp X.K H v d → RelV v u → ∃ as, Reads s.heap u d as
  | .none, _, _, h, r => by cases h; cases r; exact ⟨_, .none⟩
  | .bool b, _, _, h, r => by cases h; cases r; exact ⟨_, .bool b⟩
  | .int i, _, _, h, r => by cases h; obtain ⟨t, rfl⟩ := r; exact ⟨_, .int i t⟩
  | .str x, _, _, h, r => by cases h; obtain ⟨t, rfl⟩ := r; exact ⟨_, .str x t⟩
  | .list ds, _, _, h, r => by
    cases h with
    | l g k =>
      cases r
      obtain ⟨its, rv, ⟨o, n, e1, e2, _, e3⟩, _⟩ := I.list g
      obtain ⟨as, q⟩ := RpL.rd I ds _ its k rv
      exact ⟨_, .list e1 e2 e3 q⟩
  | .tuple ds, _, _, h, r => by
    cases h with
    | t g k =>
      cases r
      obtain ⟨its, rv, ⟨o, e1, e2, n, e3⟩, _⟩ := I.tuple g
      obtain ⟨as, q⟩ := RpL.rd I ds _ its k rv
      exact ⟨_, .tuple e1 e2 e3 q⟩
  | .dict kvs, _, _, h, r => by
    cases h with
    | d g k =>
      cases r
      obtain ⟨_, _, vs, kv, o, es, ep, e1, e2, e3, _, e4, _⟩ := dk_rd I.hok g
      obtain ⟨⟨as, k1⟩, bs, k2⟩ := RpK.rd I kvs _ vs es.toList k kv e4
      exact ⟨_, .dict e1 e2.1 e3 k1 k2⟩
theorem RpL.rd (I : Inv X pins σ H s) : ∀ (ds : List D) (vs : List V) (us : List Value), RpL X.K H vs ds → Vals vs us → ∃ as, ReadsAll s.heap us ds as
  | [], _, _, h, r => by cases h; cases r; exact ⟨_, .nil⟩
  | d :: ds, _, _, h, r => by
    cases h with
    | cons h1 h2 =>
      cases r with
      | cons r1 r2 =>
        obtain ⟨as, q1⟩ := Rp.rd I d _ _ h1 r1
        obtain ⟨bs, q2⟩ := RpL.rd I ds _ _ h2 r2
        exact ⟨_, .cons q1 q2⟩
theorem RpK.rd (I : Inv X pins σ H s) : ∀ (ds : List (D × D)) (vs : List (Key × V)) (us : List (Key × Value)) (es : List DictEntry), RpK X.K H vs ds → KV vs us → Pairs (mixKind X.prog X.w) es us → (∃ as, ReadsAll s.heap (es.map (·.key)) (ds.map (·.1)) as) ∧ ∃ bs, ReadsAll s.heap (es.map (·.val)) (ds.map (·.2)) bs
  | [], _, _, _, h, r, p => by cases h; cases r; cases p; exact ⟨⟨_, .nil⟩, _, .nil⟩
  | (_, d) :: ds, _, us, es, h, r, p => by
    cases h with
    | @cons k v vs _ _ h1 h2 =>
      cases r with
      | @cons _ u _ us r1 r2 =>
        cases p with
        | @cons e0 _ es _ p1 p2 p3 =>
          obtain ⟨as, q1⟩ := Rp.rd I d _ _ h1 r1.2
          obtain ⟨⟨bs, q2⟩, cs, q3⟩ := RpK.rd I ds _ _ _ h2 r2 p3
          have ek : u.1 = k := r1.1.symm
          rw [ek] at p1
          refine ⟨?_, ⟨_, .cons (show Reads s.heap e0.val d as by rw [p2]; exact q1) q3⟩⟩
          rcases keyIs_shape (show keyIs k e0.key = true from p1) with ⟨i, t, rfl, e⟩ | ⟨x, t, rfl, e⟩
          · exact ⟨_, .cons (show Reads s.heap e0.key (.int i) [] by rw [e]; exact .int i t) q2⟩
          · exact ⟨_, .cons (show Reads s.heap e0.key (.str x) [] by rw [e]; exact .str x t) q2⟩
end
end
inductive SV where
  | un
  | sh (d : D)
  | ow (xs : List D)
  | od (kvs : List (Key × D))
  | oo (xss : List (List D))
  | fn (x : Str)
abbrev Ev := List SV
abbrev Fp := Nat → List Addr

def SRep (K : PySem.W.Frag) (Hs H : Hp) (s : SV) (o : Option V) (f : List Addr) : Prop := match s with
  | .un => f = []
  | .sh d => f = [] ∧ ∃ v, o = some v ∧ Rp K Hs v d
  | .ow xs => ∃ a vs, o = some (.ref a) ∧ f = [a] ∧ H a = some (.lst vs) ∧ RpL K Hs vs xs
  | .od kvs => ∃ a vs, o = some (.ref a) ∧ f = [a] ∧ H a = some (.dK vs) ∧ Paired (fun (p : Key × V) (q : Key × D) => p.1 = q.1 ∧ Rp K Hs p.2 q.2) vs kvs
  | .fn x => f = [] ∧ ∃ g, PySem.W.nsIn K mainGlobals x = some (some (.ref g)) ∧ o = some (.ref g)
  | .oo xss => ∃ a as, o = some (.ref a) ∧ f = a :: as ∧ H a = some (.lst (as.map V.ref)) ∧ Paired (fun b xs => ∃ vs, H b = some (.lst vs) ∧ RpL K Hs vs xs) as xss

structure Rl (K : PySem.W.Frag) (Hs H : Hp) (e : Ev) (σ : St) (fp : Fp) : Prop where
  len : σ.length = e.length
  pl : ∀ i s, e[i]? = some s → ∃ o, σ[i]? = some o ∧ SRep K Hs H s o (fp i)
  out : ∀ i, e.length ≤ i → fp i = []
  nd : ∀ i, (fp i).Nodup
  ap : ∀ i j a, a ∈ fp i → a ∈ fp j → i = j
  fr : ∀ i a, a ∈ fp i → Hs a = none
  sub : Same Hs H

structure Adv (fp : Fp) (Hs H : Hp) (fp' : Fp) (Hs' H' : Hp) : Prop where
  same : Same Hs Hs'
  keep : ∀ a o, H a = some o → (∀ i, a ∉ fp i) → H' a = some o
  trk : ∀ a, H' a = none → H a = none
  own : ∀ i a, a ∈ fp' i → (∃ j, a ∈ fp j) ∨ H a = none
  fre : ∀ a o, Hs' a = some o → (∃ o', Hs a = some o') ∨ H a = none ∨ ∃ j, a ∈ fp j

theorem paired_imp {α β : Type} {F G : α → β → Prop} : ∀ {xs : List α} {ys : List β}, Paired F xs ys → (∀ a b, a ∈ xs → F a b → G a b) → Paired G xs ys
  | _, _, .nil, _ => .nil
  | _, _, .cons r t, f => .cons (f _ _ List.mem_cons_self r) (paired_imp t fun a b m => f a b (List.mem_cons_of_mem _ m))

theorem SRep.keep {K : PySem.W.Frag} {Hs H Hs' H' : Hp} {s : SV} {o : Option V} {f : List Addr} (h : SRep K Hs H s o f) (e : Same Hs Hs') (k : ∀ a ∈ f, ∀ o, H a = some o → H' a = some o) : SRep K Hs' H' s o f := by
  cases s with
  | un => exact h
  | fn g => exact h
  | sh d => obtain ⟨h1, v, h2, h3⟩ := h; exact ⟨h1, v, h2, h3.sm e⟩
  | ow xs => obtain ⟨a, vs, h1, h2, h3, h4⟩ := h; exact ⟨a, vs, h1, h2, k a (by simp [h2]) _ h3, h4.sm e⟩
  | od xs => obtain ⟨a, vs, h1, h2, h3, h4⟩ := h; exact ⟨a, vs, h1, h2, k a (by simp [h2]) _ h3, paired_imp h4 fun p q _ z => ⟨z.1, z.2.sm e⟩⟩
  | oo xs =>
    obtain ⟨a, as, h1, h2, h3, h4⟩ := h
    exact ⟨a, as, h1, h2, k a (by simp [h2]) _ h3, paired_imp h4 fun p q m ⟨vs, z1, z2⟩ => ⟨vs, k p (by rw [h2]; exact List.mem_cons_of_mem _ m) _ z1, z2.sm e⟩⟩
theorem Paired.exL {α β : Type} {F : α → β → Prop} {a : α} : ∀ {xs : List α} {ys : List β}, Paired F xs ys → a ∈ xs → ∃ b, F a b
  | _, _, .nil, h => by simp at h
  | _, _, .cons r t, h => by
    rcases List.mem_cons.mp h with rfl | h
    · exact ⟨_, r⟩
    · exact Paired.exL t h
theorem SRep.trk {K : PySem.W.Frag} {Hs H : Hp} {s : SV} {o : Option V} {f : List Addr} (h : SRep K Hs H s o f) {a : Addr} (m : a ∈ f) : ∃ u, H a = some u := by
  cases s with
  | un => rw [show f = [] from h] at m; simp at m
  | fn g => rw [h.1] at m; simp at m
  | sh d => rw [h.1] at m; simp at m
  | ow xs => obtain ⟨b, vs, h1, h2, h3, h4⟩ := h; rw [h2] at m; simp at m; subst m; exact ⟨_, h3⟩
  | od xs => obtain ⟨b, vs, h1, h2, h3, h4⟩ := h; rw [h2] at m; simp at m; subst m; exact ⟨_, h3⟩
  | oo xs =>
    obtain ⟨b, as, h1, h2, h3, h4⟩ := h
    rw [h2] at m
    rcases List.mem_cons.mp m with e | m
    · subst e; exact ⟨_, h3⟩
    · obtain ⟨_, vs, z, _⟩ := Paired.exL h4 m; exact ⟨_, z⟩

section
variable {K : PySem.W.Frag} {Hs H Hs' H' Hs2 H2 : Hp} {e e' : Ev} {σ σ' : St} {fp fp' fp2 : Fp}
theorem Rl.trk (r : Rl K Hs H e σ fp) {i : Nat} {a : Addr} (m : a ∈ fp i) : ∃ u, H a = some u := by
  by_cases h : i < e.length
  · obtain ⟨o, _, q⟩ := r.pl i e[i] (by simp [h])
    exact q.trk m
  · rw [r.out i (Nat.le_of_not_lt h)] at m; simp at m
theorem Adv.refl : Adv fp Hs H fp Hs H := ⟨Same.refl _, fun _ _ h _ => h, fun _ h => h, fun i a m => .inl ⟨i, m⟩, fun a o h => .inl ⟨o, h⟩⟩
theorem Adv.trans (x : Adv fp Hs H fp' Hs' H') (y : Adv fp' Hs' H' fp2 Hs2 H2) : Adv fp Hs H fp2 Hs2 H2 where
  same := x.same.trans y.same
  keep := fun a o h n => y.keep a o (x.keep a o h n) fun i m => by
    rcases x.own i a m with ⟨j, q⟩ | q
    · exact n j q
    · rw [h] at q; cases q
  trk := fun a h => x.trk a (y.trk a h)
  own := fun i a m => by
    rcases y.own i a m with ⟨j, q⟩ | q
    · exact x.own j a q
    · exact .inr (x.trk a q)
  fre := fun a o h => by
    rcases y.fre a o h with ⟨o', q⟩ | q | ⟨j, q⟩
    · exact x.fre a o' q
    · exact .inr (.inl (x.trk a q))
    · rcases x.own j a q with q | q
      · exact .inr (.inr q)
      · exact .inr (.inl q)

structure Grow (Hs H Hs' H' : Hp) : Prop where
  same : Same Hs Hs'
  keep : Same H H'
  sub : Same Hs' H'
  fre : ∀ a o, Hs' a = some o → (∃ o', Hs a = some o') ∨ H a = none
theorem Grow.refl (s : Same Hs H) : Grow Hs H Hs H := ⟨Same.refl _, Same.refl _, s, fun a o h => .inl ⟨o, h⟩⟩
theorem Grow.trans (x : Grow Hs H Hs' H') (y : Grow Hs' H' Hs2 H2) : Grow Hs H Hs2 H2 := ⟨x.same.trans y.same, x.keep.trans y.keep, y.sub, fun a o h => by
  rcases y.fre a o h with ⟨o', q⟩ | q
  · exact x.fre a o' q
  · exact .inr (x.keep.free q)⟩
theorem Grow.rl (g : Grow Hs H Hs' H') (r : Rl K Hs H e σ fp) : Rl K Hs' H' e σ fp where
  len := r.len
  pl := fun i s h => let ⟨o, q1, q2⟩ := r.pl i s h; ⟨o, q1, q2.keep g.same fun a _ o h => g.keep a o h⟩
  out := r.out
  nd := r.nd
  ap := r.ap
  fr := fun i a m => by
    cases q : Hs' a with
    | none => rfl
    | some o =>
      rcases g.fre a o q with ⟨o', z⟩ | z
      · rw [r.fr i a m] at z; cases z
      · obtain ⟨u, w⟩ := r.trk m; rw [w] at z; cases z
  sub := g.sub
theorem Grow.adv (g : Grow Hs H Hs' H') : Adv fp Hs H fp Hs' H' := ⟨g.same, fun a o h _ => g.keep a o h, fun a h => g.keep.free h, fun i a m => .inl ⟨i, m⟩, fun a o h => (g.fre a o h).imp_right .inl⟩
theorem same_new {p : Addr} {o : HO} (n : H p = none) : Same H (upd H p o) := fun b u h => by
  rw [upd_ne (ne_of_none h n)]; exact h
theorem same_upd2 {p : Addr} {o : HO} (s : Same Hs H) : Same (upd Hs p o) (upd H p o) := fun b u h => by
  by_cases q : b = p
  · subst q; rw [upd_same] at h ⊢; exact h
  · rw [upd_ne q] at h ⊢; exact s _ _ h
theorem Grow.new {p : Addr} {o : HO} (s : Same Hs H) (n : H p = none) : Grow Hs H (upd Hs p o) (upd H p o) :=
  ⟨same_new (s.free n), same_new n, same_upd2 s, fun a u h => by
    by_cases q : a = p
    · subst q; exact .inr n
    · rw [upd_ne q] at h; exact .inl ⟨u, h⟩⟩
theorem Grow.own {p : Addr} {o : HO} (s : Same Hs H) (n : H p = none) : Grow Hs H Hs (upd H p o) :=
  ⟨Same.refl _, same_new n, s.trans (same_new n), fun a u h => .inl ⟨u, h⟩⟩
theorem Grow.tell {p : Addr} {o : HO} (g : Grow Hs H Hs' H') (n : H p = none) (n' : Hs' p = none) (h : H' p = some o) : Grow Hs H (upd Hs' p o) H' :=
  ⟨g.same.trans (same_new n'), g.keep, fun a u q => by
    by_cases z : a = p
    · subst z; rw [upd_same] at q; cases q; exact h
    · rw [upd_ne z] at q; exact g.sub _ _ q, fun a u q => by
    by_cases z : a = p
    · subst z; exact .inr n
    · rw [upd_ne z] at q; exact g.fre a u q⟩
end
end TL
set_option Elab.async false
set_option linter.all false
set_option maxRecDepth 100000
namespace TL
open PySem PySem.Spec L2
open PyProof.Rows hiding St
def PoV (K : PySem.W.Frag) (Hs H : Hp) (d : D) (Q : VK) : Prop := ∀ Hs' H' v, Grow Hs H Hs' H' → Rp K Hs' v d → Q v H'
def PoF (K : PySem.W.Frag) (Hs H : Hp) (xs : List D) (Q : VK) : Prop := ∀ Hs' H' p vs, Grow Hs H Hs' H' → H p = none → Hs' p = none → H' p = some (.lst vs) → RpL K Hs' vs xs → Q (.ref p) H'
section
variable {K : PySem.W.Frag} {Hs H Hs' H' : Hp} {d : D} {xs : List D} {Q : VK}
theorem PoV.f (h : PoV K Hs H (.list xs) Q) : PoF K Hs H xs Q := fun Hs' H' p vs g n n' e r => h (upd Hs' p (.lst vs)) H' (.ref p) (g.tell n n' e) (.l (.inl (.inl upd_same)) (r.sm (same_new n')))
theorem PoV.go (h : PoV K Hs H d Q) (g : Grow Hs H Hs' H') : PoV K Hs' H' d Q := fun Hs2 H2 v g2 r => h Hs2 H2 v (g.trans g2) r
theorem PoF.go (h : PoF K Hs H xs Q) (g : Grow Hs H Hs' H') : PoF K Hs' H' xs Q := fun Hs2 H2 p vs g2 n n' e r => h Hs2 H2 p vs (g.trans g2) (g.keep.free n) n' e r
theorem PoV.at (h : PoV K Hs H d Q) (s : Same Hs H) {v : V} (r : Rp K Hs v d) : Q v H := h Hs H v (Grow.refl s) r
theorem PoF.new (h : PoF K Hs H xs Q) (s : Same Hs H) {vs : List V} (r : RpL K Hs vs xs) {p : Addr} (n : H p = none) : Q (.ref p) (upd H p (.lst vs)) :=
  h Hs (upd H p (.lst vs)) p vs (Grow.own s n) n (s.free n) upd_same r
theorem PoV.tup (h : PoV K Hs H (.tuple xs) Q) (s : Same Hs H) {vs : List V} (r : RpL K Hs vs xs) {p : Addr} (n : H p = none) : Q (.ref p) (upd H p (.tup vs)) :=
  h (upd Hs p (.tup vs)) _ _ (Grow.new s n) (.t (.inl (.inl upd_same)) (r.sm (same_new (s.free n))))
end
abbrev LN : Nat := 16777216
theorem ln_eq : sizeLine = LN := sizeLine_eq

def OpD (X : Cx) (f : Value → Value → Sem Value) (g : D → D → Option D) : Prop :=
  ∀ (pins : List (Addr × Obj)) (s : Shared) (σ : L2.St) (Hs H : Hp) (x y : V) (v u : Value) (a b d : D) (Q : VK), Inv X pins σ H s → Same Hs H → RelV x v → RelV y u → Rp X.K Hs x a → Rp X.K Hs y b → g a b = some d → PoV X.K Hs H d Q →
    wpAny (model X.prog X.w) X.A (f v u) (EP X pins σ Q) X.xe s
def OpF (X : Cx) (f : Value → Value → Sem Value) (g : D → D → Option (List D)) : Prop :=
  ∀ (pins : List (Addr × Obj)) (s : Shared) (σ : L2.St) (Hs H : Hp) (x y : V) (v u : Value) (a b : D) (d : List D) (Q : VK), Inv X pins σ H s → Same Hs H → RelV x v → RelV y u → Rp X.K Hs x a → Rp X.K Hs y b → g a b = some d → PoF X.K Hs H d Q →
    wpAny (model X.prog X.w) X.A (f v u) (EP X pins σ Q) X.xe s
def ClD (X : Cx) (f : Value) (g : List D → Option D) : Prop :=
  ∀ (pins : List (Addr × Obj)) (s : Shared) (σ : L2.St) (Hs H : Hp) (xs : List V) (us : List Value) (as : List D) (d : D) (Q : VK), Inv X pins σ H s → Same Hs H → Vals xs us → RpL X.K Hs xs as → g as = some d → PoV X.K Hs H d Q →
    wpAny (model X.prog X.w) X.A (call f us) (EP X pins σ Q) X.xe s
def addD : D → D → Option D
  | .int i, .int j => some (.int (i + j))
  | .str x, .str y => if x.length + y.length ≤ LN then some (.str (x ++ y)) else none
  | .list xs, .list ys => if xs.length + ys.length ≤ LN then some (.list (xs ++ ys)) else none
  | .tuple xs, .tuple ys => if xs ≠ [] ∧ ys ≠ [] ∧ xs.length + ys.length ≤ LN then some (.tuple (xs ++ ys)) else none
  | _, _ => none
def addF : D → D → Option (List D)
  | .list xs, .list ys => if xs.length + ys.length ≤ LN then some (xs ++ ys) else none
  | _, _ => none
def subD : D → D → Option D
  | .int i, .int j => some (.int (i - j))
  | _, _ => none
def mulD : D → D → Option D
  | .int i, .int j => if Builtin.Int.intBits i + Builtin.Int.intBits j ≤ 134217728 then some (.int (i * j)) else none
  | .list xs, .int k => if k.natAbs < 9223372036854775808 ∧ xs.length * k.toNat ≤ LN then some (.list (List.replicate k.toNat xs).flatten) else none
  | _, _ => none
def modD : D → D → Option D
  | .int i, .int j => if j ≠ 0 then some (.int (i.fmod j)) else none
  | _, _ => none
def divD : D → D → Option D
  | .int i, .int j => if 0 < j ∧ j.natAbs.log2 < 9000 then some (.int (i / j)) else none
  | _, _ => none
def powD : D → D → Option D
  | .int i, .int n => if 0 ≤ n ∧ Builtin.Int.intBits i * n.natAbs ≤ 134217728 then some (.int (i ^ n.toNat)) else none
  | _, _ => none
def eqOk (a b : D) : Bool := a.plain && b.plain && decide (min a.depth b.depth ≤ 64)
def eqD (a b : D) : Option D := if eqOk a b = true then some (.bool (PyData.eqv a b)) else none
def neD (a b : D) : Option D := if eqOk a b = true then some (.bool (!PyData.eqv a b)) else none
def ltD : D → D → Option D
  | .int i, .int j => some (.bool (decide (i < j)))
  | _, _ => none
def leD : D → D → Option D
  | .int i, .int j => some (.bool (decide (i ≤ j)))
  | _, _ => none
def gtD : D → D → Option D
  | .int i, .int j => some (.bool (decide (j < i)))
  | _, _ => none
def geD : D → D → Option D
  | .int i, .int j => some (.bool (decide (j ≤ i)))
  | _, _ => none
def flatD : D → Bool
  | .none => true
  | .bool _ => true
  | .int _ => true
  | .str _ => true
  | _ => false
def itemsD : D → Option (List D)
  | .list xs => some xs
  | .tuple xs => some xs
  | _ => none
def inD (x : D) (c : D) : Option D := (itemsD c).bind fun xs => if flatD x = true ∧ xs.all flatD = true then some (.bool (xs.any fun y => PyData.eqv y x)) else none
section
variable {prog : Program} {w : World} {A : Around} {E : Value → Shared → Prop} {s : Shared} {Q : Value → Shared → Prop} {l b : Addr} {i1 i2 : List Value}
theorem add_pl (h1 : PlainL s.heap l i1.toArray) (h2 : PlainL s.heap b i2.toArray) (hsz : i1.length + i2.length ≤ sizeLine)
    (h : Q (.ref s.heap.objs.size) { s with heap := s.heap.push { cls := .type "list", data := .seq (i1 ++ i2).toArray } }) : wpAny (model prog w) A (binaryOp .Add (.ref l) (.ref b)) Q E s := by
  obtain ⟨⟨c1, d1, t1, s1⟩, n1, g1, k1, _, m1⟩ := h1
  obtain ⟨⟨c2, d2, t2, s2⟩, n2, g2, k2, _, m2⟩ := h2
  simp only at k1 m1 k2 m2
  subst k1 m1 k2 m2
  refine concat_meets ⟨_, g1, rfl⟩ ⟨_, g2, rfl⟩ noFill_list_add seq_list_add PySem.F.slot_list_add PySem.F.entry_list_add (PySem.F.args_list_add_2 _ _)
    (list_addW l b i1.toArray i2.toArray n1 n2 d1 d2 s1 s2 (by simpa using hsz)) ⟨g1, g2, ?_⟩
  have e : i1.toArray ++ i2.toArray = (i1 ++ i2).toArray := by simp
  rw [e]
  exact h
theorem mul_pl {x : Int} {u : Tok} (h1 : PlainL s.heap l i1.toArray) (lo : -(2 ^ 63 : Int) ≤ x) (hi : x < 2 ^ 63) (hsz : i1.length * x.toNat ≤ 2 ^ 24)
    (h : Q (.ref s.heap.objs.size) { s with heap := s.heap.push { cls := .type "list", data := .seq (List.replicate x.toNat i1).flatten.toArray } }) : wpAny (model prog w) A (binaryOp .Mult (.ref l) (.int x u)) Q E s := by
  obtain ⟨⟨c1, d1, t1, s1⟩, n1, g1, k1, _, m1⟩ := h1
  simp only at k1 m1
  subst k1 m1
  have z : i1.toArray.size * x.toNat ≤ 2 ^ 24 := by simpa using hsz
  have inner := lm_list_mul_any l i1.toArray n1 d1 s1 x u (by simp [Builtin.List.listFitsIndex]; omega) (by omega) (by simp [Builtin.List.listTooLong, sizeLine]; omega)
  refine wpAny_binaryOp_repeat_ref (T := "list") (U := "int") (by decide) ⟨_, g1, rfl⟩ (fun s' => typeIs_int s' x u) PySem.noFill_list_mul
    PySem.F.fills_int_mul PySem.F.slot_int_rmul repeat_list PySem.F.slot_int_index.lookup (call_meets PySem.F.slot_int_rmul (typeIs_int s x u) PySem.F.entry_int_rmul (PySem.F.args_int_rmul_2 _ _) (lm_int_rmul_list_any x u l i1.toArray n1 d1 s1) ?_)
  refine ⟨g1, rfl, ⟨_, g1, rfl⟩, call_meets PySem.F.slot_list_mul ⟨_, g1, rfl⟩ PySem.F.entry_list_mul (PySem.F.args_list_mul_2 _ _) inner ⟨g1, ?_⟩⟩
  rw [listMul_foldl_if]
  exact h
end
theorem Vals.reps {vs : List V} {us : List Value} (r : Vals vs us) : ∀ n : Nat, Vals (List.replicate n vs).flatten (List.replicate n us).flatten
  | 0 => .nil
  | n + 1 => by rw [List.replicate_succ, List.flatten_cons, List.replicate_succ, List.flatten_cons]; exact r.append (Vals.reps r n)
theorem RpL.reps {K : PySem.W.Frag} {H : Hp} {vs : List V} {ds : List D} (r : RpL K H vs ds) : ∀ n : Nat, RpL K H (List.replicate n vs).flatten (List.replicate n ds).flatten
  | 0 => .nil
  | n + 1 => by rw [List.replicate_succ, List.flatten_cons, List.replicate_succ, List.flatten_cons]; exact r.app (RpL.reps r n)
theorem len_reps {α : Type} (xs : List α) (n : Nat) : (List.replicate n xs).flatten.length = xs.length * n := by
  rw [List.length_flatten, List.map_replicate, List.sum_replicate_nat, Nat.mul_comm]
section
variable {X : Cx}
theorem od_add : OpD X (binaryOp .Add) addD := by
  intro pins s σ Hs H x y v u a b d Q I sm rx ry ra rb e q
  cases ra <;> cases rb <;> simp only [addD] at e <;> try contradiction
  · injection e with e; subst e
    exact op_add pins s σ H _ _ v u Q I rx ry ⟨_, _, rfl, rfl, q.at sm (.i _)⟩
  · split at e <;> try contradiction
    rename_i h
    injection e with e; subst e
    exact op_add_str pins s σ H _ _ v u Q I rx ry ⟨_, _, rfl, rfl, by rw [ln_eq]; exact h, q.at sm (.s _)⟩
  · rename_i l1 vs ds h1 k1 l2 ws es h2 k2
    split at e <;> try contradiction
    rename_i h
    injection e with e; subst e
    cases rx
    cases ry
    obtain ⟨i1, r1, e1, _⟩ := I.list (same_rd sm h1)
    obtain ⟨i2, r2, e2, _⟩ := I.list (same_rd sm h2)
    have L1 := r1.length; have L2 := r2.length; have M1 := k1.len; have M2 := k2.len
    have hz : vs.length + ws.length ≤ sizeLine := by rw [ln_eq]; omega
    refine add_pl e1 e2 (by omega) ?_
    exact ⟨.ref _, _, I.lnew (t' := s.toks) (r1.append r2) (by rw [List.length_append]; omega), rfl, q.f.new sm (k1.app k2) I.fresh⟩
  · rename_i l1 vs ds h1 k1 l2 ws es h2 k2
    split at e <;> try contradiction
    rename_i h
    obtain ⟨h3, h4, h⟩ := h
    injection e with e; subst e
    have M1 := k1.len; have M2 := k2.len
    refine op_catT pins s σ H _ _ v u Q I rx ry ⟨_, _, _, _, rfl, rfl, same_seqT sm h1, same_seqT sm h2, ?_, by rw [ln_eq]; omega, ?_, ?_⟩
    · intro z; subst z; exact h3 (List.length_eq_zero_iff.mp (by simpa using M1.symm))
    · intro z; subst z; exact absurd (List.length_eq_zero_iff.mp (by simpa using M2.symm)) h4
    · intro _ p hp; exact q.tup sm (k1.app k2) hp
theorem of_add : OpF X (binaryOp .Add) addF := by
  intro pins s σ Hs H x y v u a b d Q I sm rx ry ra rb e q
  cases ra <;> cases rb <;> simp only [addF] at e <;> try contradiction
  rename_i l1 vs ds h1 k1 l2 ws es h2 k2
  split at e <;> try contradiction
  rename_i h
  injection e with e; subst e
  cases rx
  cases ry
  obtain ⟨i1, r1, e1, _⟩ := I.list (same_rd sm h1)
  obtain ⟨i2, r2, e2, _⟩ := I.list (same_rd sm h2)
  have L1 := r1.length; have L2 := r2.length; have M1 := k1.len; have M2 := k2.len
  have hz : vs.length + ws.length ≤ sizeLine := by rw [ln_eq]; omega
  refine add_pl e1 e2 (by omega) ?_
  exact ⟨.ref _, _, I.lnew (t' := s.toks) (r1.append r2) (by rw [List.length_append]; omega), rfl, q.new sm (k1.app k2) I.fresh⟩
theorem od_sub : OpD X (binaryOp .Sub) subD := by
  intro pins s σ Hs H x y v u a b d Q I sm rx ry ra rb e q
  cases ra <;> cases rb <;> simp only [subD] at e <;> try contradiction
  injection e with e; subst e
  exact op_sub pins s σ H _ _ v u Q I rx ry ⟨_, _, rfl, rfl, q.at sm (.i _)⟩
theorem od_mul : OpD X (binaryOp .Mult) mulD := by
  intro pins s σ Hs H x y v u a b d Q I sm rx ry ra rb e q
  cases ra <;> cases rb <;> simp only [mulD] at e <;> try contradiction
  · split at e <;> try contradiction
    rename_i h
    injection e with e; subst e
    exact op_mulX pins s σ H _ _ v u Q I rx ry ⟨_, _, rfl, rfl, (show (Builtin.Int.intBits _ : Int) + (Builtin.Int.intBits _ : Int) ≤ 134217728 by omega), q.at sm (.i _)⟩
  · rename_i l1 vs ds h1 k1 k
    split at e <;> try contradiction
    rename_i h
    injection e with e; subst e
    obtain ⟨h2, h4⟩ := h
    cases rx
    obtain ⟨t, rfl⟩ := ry
    obtain ⟨i1, r1, e1, _⟩ := I.list (same_rd sm h1)
    have L1 := r1.length; have M1 := k1.len
    refine mul_pl e1 (by omega) (by omega) (by rw [← L1, M1]; exact h4) ?_
    exact ⟨.ref _, _, I.lnew (t' := s.toks) (Vals.reps r1 _) (by rw [len_reps, M1, ln_eq]; exact h4), rfl, q.f.new sm (k1.reps _) I.fresh⟩
end
end TL
set_option Elab.async false
set_option linter.all false
set_option maxRecDepth 100000
namespace TL
open PySem PySem.Spec L2
open PyProof.Rows hiding St
structure FnG (P : Program) (w : World) (K : PySem.W.Frag) (mg : Str → Option Value) (base : Heap) (CX : CXT) (k : Nat) (f : Addr) (fd : FuncData) (ps : List Str) (sp : Sp) : Prop where
  len : ∀ vs H Q E, sp vs H Q E → vs.length = ps.length
  go : ∀ (A : Around) (o : List Env) (s : Shared) (H : Hp) (ar : Args) (us : List Value) (vs : List V) (Q : VK) (E : XK), A.guards = some [] → Room k A → Env0 P w K mg base A o s H → BindsTo s fd ar (ps.zip us) → Vals vs us → sp vs H Q E →
    codeAny (model P w) A (.call (.ref f) ar) (CR CX o P w H s Q E) s
theorem FnG.up {P : Program} {w : World} {K : PySem.W.Frag} {mg : Str → Option Value} {base : Heap} {CX : CXT} {j k : Nat} {f : Addr} {fd : FuncData} {ps : List Str} {sp : Sp} (F : FnG P w K mg base CX j f fd ps sp) (h : j ≤ k) : FnG P w K mg base CX k f fd ps sp :=
  ⟨F.len, fun A o s H ar us vs Q E g hr => F.go A o s H ar us vs Q E g (hr.mono h)⟩
section
variable {P : Program} {w : World} {K : PySem.W.Frag} {mg : Str → Option Value} {base : Heap}
theorem fnG_of {CX : CXT} {k : Nat} {f : Addr} {nm q : Str} {pr : Arguments} {bd : List Stmt} {sc : Scope} {dV kV doc pm cdv ct oc : Value} {an od : Option Addr} {osl : Array (Option Value)} {N ps : List Str} {sp : Sp}
    (lk : K.lookup f = some ⟨oc, od, .func (PySem.W.fnOf nm q pr bd sc dV kV doc pm an cdv ct), osl⟩) (hcd : PySem.W.codeIn K cdv q = true) (S : FnScope N ps sc) (len : ∀ vs H Q E, sp vs H Q E → vs.length = ps.length)
    (hb : ∀ (A : Around) (o : List Env) (s : Shared) (H : Hp) (vs : List V) (Q : VK) (E : XK), A.guards = some [] → Room k (A.deeper (envOfC q sc s.heap.objs.size f cdv)) → sp vs H Q E →
      ∃ t, PSs (cxOf CX P w K mg base N q sc f cdv A o s H E) bd t ∧ t { nx := fun _ H' => Q .non H', rt := Q } (start N vs) H) : FnG P w K mg base CX (k + 1) f (PySem.W.fnOf nm q pr bd sc dV kV doc pm an cdv ct) ps sp := by
  constructor
  · exact len
  · intro A o s H ar us vs Q E g hr e0 hbd r hsp
    have hl := len _ _ _ _ hsp
    have kIn : K.In s.heap := e0.mod.kin.keeps fun b u e => (e0.bs b u e).1
    have nl : s.heap.NoLimit := e0.mod.nolimit.keeps fun b u e => (e0.bs b u e).1
    have kd : ∀ y ∈ ps.zip us, sc.names.lookup y.1 = some .local ∨ (sc.names.lookup y.1 = some .cell ∧ ((cellsFrom (s.heap.objs.size + 1) sc.names []).lookup y.1).isSome = true) := by
      rintro ⟨n, v⟩ hy
      rcases S.par n (List.of_mem_zip hy).1 with z | z
      · exact .inl z
      · exact .inr ⟨z, PySem.W.cellsFrom_some _ _ _ (.inl z)⟩
    refine codeAny_call_function hr.depth (kIn _ _ lk) rfl S.co S.gen rfl (PySem.W.codeRec_of kIn hcd) (hbd _ _ _ _ (wpAny_newFunctionEnv_cells S.kind kd fun env he s1 x => ?_))
    subst he
    refine ⟨nl.keeps x.toInCall.keep, codeAny_func ?_⟩
    obtain ⟨t, ht, hq⟩ := hb A o s H vs Q E g (hr.deeper _) hsp
    have J : Inv (cxOf CX P w K mg base N q sc f cdv A o s H E) [] (start N vs) H s1 := inv_start S hr.hd e0 hl r x
    refine wpAny_mono (ht.run [] s1 (start N vs) H _ J hq) ?_ (fun e s' z => z)
    intro fl s' hs
    cases fl with
    | ret u =>
      obtain ⟨v, σ', H', J', rv, z⟩ := hs
      exact ⟨v, H', J'.os, J'.bare, J'.base, J'.hok, rv, z⟩
    | next =>
      obtain ⟨σ', H', J', z⟩ := hs
      exact ⟨.non, H', J'.os, J'.bare, J'.base, J'.hok, rfl, z⟩
    | brk => obtain ⟨_, _, _, z⟩ := hs; exact z.elim
    | cont => obtain ⟨_, _, _, z⟩ := hs; exact z.elim
theorem okG {x q : Str} {st : Stmt} {f : Addr} {fd : FuncData} {N ps : List Str} {k : Nat} {sp : Sp} (F : Fun K x q st f fd) (S : FnScope N ps (defScope st)) (len : ∀ vs H Q E, sp vs H Q E → vs.length = ps.length)
    (hb : ∀ (cdv : Value) (A : Around) (o : List Env) (s : Shared) (H : Hp) (vs : List V) (Q : VK) (E : XK), A.guards = some [] → Room k (A.deeper (envOfC q (defScope st) s.heap.objs.size f cdv)) → sp vs H Q E →
      ∃ t, PSs (cxOf CX0 P w K mg base N q (defScope st) f cdv A o s H E).nox (defBody st) t ∧ t { nx := fun _ H' => Q .non H', rt := Q } (start N vs) H) : FnG P w K mg base CX0 (k + 1) f fd ps sp := by
  obtain ⟨oc, od, kV, doc, pm, an, cdv, ct, osl, rfl, lk, hcd⟩ := F.ex
  refine fnG_of lk hcd S len fun A o s H vs Q E g hr hsp => ?_
  obtain ⟨t, h, z⟩ := hb cdv A o s H vs Q E g hr hsp
  exact ⟨t, h.nox, z⟩
end
section
variable {X : Cx} {CX : CXT} {k : Nat} {f : Addr} {fd : FuncData} {ps : List Str} {sp : Sp} {dvs : List V} {ds : List Value} {E : XK} {x : Str} {p pos : Pos} {e : Expr} {es : List Expr} {t : TA}
theorem runG {pins : List (Addr × Obj)} {σ : L2.St} {H : Hp} {s : Shared} {Q : VK} {us : List Value} {vs : List V} (F : FnG X.prog X.w X.K X.mg X.base CX k f fd ps sp) (g : X.A.guards = some []) (hr : Room k X.A) (hb : Binds X.K fd ps ds) (hd : Vals dvs ds) (hx : Passes CX X E)
    (I : Inv X pins σ H s) (r : Vals vs us) (h : sp (vs ++ dvs) H Q E) : wpAny (model X.prog X.w) X.A (call (.ref f) us) (EP X pins σ Q) X.xe s := by
  have r2 : Vals (vs ++ dvs) (us ++ ds) := r.append hd
  have hl : (us ++ ds).length = ps.length := r2.length.symm.trans (F.len _ _ _ _ h)
  have run := F.go X.A X.stack s H ⟨us, []⟩ (us ++ ds) (vs ++ dvs) Q E g hr I.env0 (hb s us I.kIn hl) r2 h
  refine wpAny_call (codeAny_mono run ?_)
  intro res s' hq
  cases res with
  | error er => exact hx pins σ H s er s' I hq
  | ok fl =>
    cases fl with
    | ret u => exact I.after hq
    | next => exact hq.elim
    | brk => exact hq.elim
    | cont => exact hq.elim
theorem pe_callG (F : FnG X.prog X.w X.K X.mg X.base CX k f fd ps sp) (g : X.A.guards = some []) (hr : Room k X.A) (hg : Gl X x) (hm : X.mg x = some (.ref f)) (hk : PySem.W.keepIn X.K (.ref f) = true) (hb : Binds X.K fd ps ds) (hd : Vals dvs ds) (hx : Passes CX X E)
    (ha : PA X (e :: es) t) (hdb : (x == ("__debug__" : Str)) = false := by decide) (he : starEach (e :: es) X.env = (false, eval e X.env) :: starEach es X.env := by rfl) (hpl : (backTo pos (starEach es X.env)).any (·.1) = false := by rfl) :
    PE X (.Call (.Name x p) (e :: es) [] pos) (tCall sp dvs E t) := by
  constructor
  intro pins s σ H Q I h
  refine wpAny_Call_Name_kw (ld_glob I hg hm (PySem.W.callWith_K (h₀ := X.base) I.ok.mod.kin hk ?_ he hpl) hdb)
  refine thn (ha.run pos pins s σ H _ I h) ?_
  rintro us s1 ⟨vs, H1, I1, r, q⟩
  exact ⟨I1.kIn, runG F g hr hb hd hx I1 r q⟩
end
theorem endG {P : Program} {w : World} {K : PySem.W.Frag} {mg mb : Str → Option Value} {CX : CXT} {k : Nat} {fa a : Addr} {fd : FuncData} {x : Str} {sp : Sp} {s1 : Shared} {vs : List Value} {ns : List Int}
    (KX : K.In s1.heap) (hns : s1.heap.Ns mainGlobals mg) (hb : s1.heap.Ns builtinsNs mb) (hbb : ∀ x : Str, x ≠ "__name__" → mb x = bootBuiltins x) (hlim : s1.heap.NoLimit) (hg : s1.gens = #[])
    (ha : s1.heap.get? a = some { cls := .type "list", data := .seq vs.toArray }) (hi : IntsAre vs ns) (hl : ns.length ≤ sizeLine) (hr : Room k callerA)
    (F : ∀ base : Heap, K.In base → base.Ns mainGlobals mg → FnG P w K mg base CX k fa fd [x] sp) (hbind : ∀ (s : Shared) (u : Value), BindsTo s fd ⟨[u], []⟩ [(x, u)])
    (hsp : ∀ H : Hp, Only H → SqL K H a (ns.map V.int) → sp [.ref a] H (fun v _ => v = .bl true) fun _ _ _ => False) (hCX : ∀ H e s', CX [] H s1 (fun _ _ _ => False) e s' → False) :
    codeAny (model P w) callerA (.call (.ref fa) ⟨[.ref a], []⟩) (fun r s' => r = .ok (.ret (.bool true)) ∧ OldK s1.heap s'.heap ∧ s'.os = s1.os ∧ AllBare s'.gens) s1 := by
  have rv := vals_ints hi
  have core : ∀ H : Hp, Only H → SqL K H a (ns.map V.int) → HOk P w H s1.heap → (∀ b u, H b = some u → b = a) → (∀ u, H a = some u → K.lookup a = none) →
      codeAny (model P w) callerA (.call (.ref fa) ⟨[.ref a], []⟩) (fun r s' => r = .ok (.ret (.bool true)) ∧ OldK s1.heap s'.heap ∧ s'.os = s1.os ∧ AllBare s'.gens) s1 := by
    intro H hO hS hok hA hK
    -- what is a dict, or stands in the written part, is not tracked
    have free : ∀ {b : Addr}, b ≠ a → H b = none := fun {b} n => by
      cases q : H b with
      | none => rfl
      | some u => exact (n (hA b u q)).elim
    have dict : ∀ {b : Addr} {m : Str → Option Value}, s1.heap.Ns b m → (hidT s1.heap H).Ns b m := by
      rintro b m ⟨o, es, ep, e, d, r⟩
      refine ⟨o, es, ep, hidT_get e (free ?_), d, r⟩
      rintro rfl
      rw [ha] at e
      cases e
      cases d
    have kb : K.In (hidT s1.heap H) := fun b o e => hidT_get (KX b o e) (by
      cases q : H b with
      | none => rfl
      | some u =>
        have z := hA b u q
        subst z
        rw [hK u q] at e
        cases e)
    obtain ⟨mc, n1, n2⟩ := hlim
    have md : Mod K mg (hidT s1.heap H) := ⟨kb, dict hns, ⟨mb, dict hb, hbb⟩, ⟨mc, dict n1, n2⟩⟩
    have e0 : Env0 P w K mg (hidT s1.heap H) callerA [] s1 H :=
      ⟨rfl, md, fun _ _ e => of_hidT e, Nat.le_of_eq (hidT_size _ _), trivial, fun b z => (List.not_mem_nil z).elim, hok, .of_eq hg⟩
    refine codeAny_mono ((F _ kb (dict hns)).go callerA [] s1 H ⟨[.ref a], []⟩ [.ref a] [.ref a] _ _ rfl hr e0 (hbind s1 (.ref a)) (.cons rfl .nil) (hsp H hO hS)) ?_
    intro r s' h
    cases r with
    | error e => exact (hCX H e s' h).elim
    | ok fl =>
      cases fl with
      | ret u =>
        obtain ⟨v, H', os, bare, un, hok', r', q⟩ := h
        obtain rfl : v = .bl true := q
        obtain rfl : u = Value.bool true := r'
        refine ⟨rfl, OldK.of_keep ?_, os, bare⟩
        intro b o e
        cases q : H b with
        | none => exact un.keep b o e q (fun z => List.not_mem_nil z) (fun z => List.not_mem_nil z)
        | some u =>
          rcases hO b with z | ⟨ob, xs, z⟩
          · rw [q] at z; cases z
          · obtain ⟨e1, _⟩ := hok b _ z
            obtain ⟨e2, _⟩ := hok' b _ (un.frzs b ob _ z)
            rw [e] at e1
            cases e1
            exact e2
      | next => exact h.elim
      | brk => exact h.elim
      | cont => exact h.elim
  cases hk : K.lookup a with
  | some o =>
    have e := KX a o hk
    rw [ha] at e
    cases e
    have sq : SqL K (fun _ => none) a (ns.map V.int) := .inr ⟨_, vs.toArray, _, hk, rfl, rfl, rfl, by rw [List.size_toArray, hi.length]; exact hl, by simpa using rv⟩
    exact core (fun _ => none) (fun _ => .inl rfl) sq (fun b u z => by cases (show (none : Option HO) = some u from z)) (fun b u z => by cases (show (none : Option HO) = some u from z)) (fun u z => by cases (show (none : Option HO) = some u from z))
  | none =>
    have at_a : upd (fun _ => none) a (.frz { cls := .type "list", data := .seq vs.toArray } (.lst (ns.map V.int))) a = some (.frz { cls := .type "list", data := .seq vs.toArray } (.lst (ns.map V.int))) := upd_same
    have no_a : ∀ b, b ≠ a → upd (fun _ => none) a (.frz { cls := .type "list", data := .seq vs.toArray } (.lst (ns.map V.int))) b = none := fun b n => upd_ne n
    refine core (upd (fun _ => none) a (.frz { cls := .type "list", data := .seq vs.toArray } (.lst (ns.map V.int)))) ?_ (.inl (.inr ⟨_, at_a⟩)) ?_ ?_ (fun _ _ => hk)
    · intro b
      by_cases q : b = a
      · subst q; exact .inr ⟨_, _, at_a⟩
      · exact .inl (no_a b q)
    · intro b u z
      by_cases q : b = a
      · subst q
        rw [at_a] at z
        cases z
        exact ⟨ha, by rw [List.length_map]; exact hl, vs, _, rv, ha⟩
      · rw [no_a b q] at z; cases z
    · intro b u z
      by_cases q : b = a
      · exact q
      · rw [no_a b q] at z; cases z

theorem walkG {l : PySem.W.OpenLaw} {n k : Nat} {q : Program} {loose : List Str} {XP : (Str → Option Value) → Heap → Prop} {YP : World → Heap → Prop} {d : DefRec} {K : Params → PySem.W.Frag} {CX : World → CXT} {sp : World → Sp} {x : Str}
    (hn : l.most = some n) (hn2 : n ≤ sizeLine) (hdf : d.params.defaults = []) (hr : Room k callerA) (hY : ∀ (w : World) (h : Heap), YP w h → (K w.params).In h)
    (F : ∀ (w : World) (mg : Str → Option Value) (fa : Addr) (h : Heap), (K w.params).In h → h.Ns mainGlobals mg → mg d.name = some (.ref fa) →
      ∃ fd : FuncData, (∀ (s : Shared) (u : Value), BindsTo s fd ⟨[u], []⟩ [(x, u)]) ∧ ∀ base : Heap, (K w.params).In base → base.Ns mainGlobals mg → FnG l.prog w (K w.params) mg base (CX w) k fa fd [x] (sp w))
    (hsp : ∀ (w : World) (H : Hp) (a : Addr) (ns : List Int), ns.length ≤ n → Only H → SqL (K w.params) H a (ns.map V.int) → sp w [.ref a] H (fun v _ => v = .bl true) fun _ _ _ => False)
    (hCX : ∀ (w : World) (H : Hp) (s : Shared) (e : Value) (s' : Shared), CX w [] H s (fun _ _ _ => False) e s' → False) : PySem.W.WalkO q loose XP YP l.row.toRowW d [] (fun f vs => PySem.call f vs) := by
  refine Att.attach_call hn hdf ?_
  intro w s₀ s1 mg mb fa o pm cd doc a vs ns G Y ho hd hcd hmg hobj hints hlen hg
  obtain ⟨fd, hb, hF⟩ := F w mg fa _ (hY w _ Y) G.T.g hmg
  exact endG (hY w _ Y) G.T.g G.T.b G.T.builtins G.T.nolimit hg hobj hints (Nat.le_trans hlen hn2) hr hF hb (fun H hO hS => hsp w H a ns hlen hO hS) (fun H e s' => hCX w H s1 e s')
end TL
set_option Elab.async false
set_option linter.all false
set_option maxRecDepth 100000
namespace TL
open PySem PySem.Spec L2
open PyProof.Rows hiding St
open PySem.TypeEq
theorem sl_ne : Slot "type" (cmpInfo .NotEq).2.1 "object.__ne__" :=
  .of (owner := "object") (n := "__ne__") (by rw [typeLookup_type, builtinLookup_eq_fast]; kernel_rfl) (by decide +kernel) (by decide +kernel) (by decide +kernel)
    (by first | exact .inl (by decide +kernel) | exact .inr (by decide +kernel)) (by rw [isSubtype_type]; kernel_rfl)
theorem sl_ne2 : Slot "type" (cmpInfo .NotEq).2.2 "object.__ne__" :=
  .of (owner := "object") (n := "__ne__") (by rw [typeLookup_type, builtinLookup_eq_fast]; kernel_rfl) (by decide +kernel) (by decide +kernel) (by decide +kernel)
    (by first | exact .inl (by decide +kernel) | exact .inr (by decide +kernel)) (by rw [isSubtype_type]; kernel_rfl)
theorem sl_eq3 : Slot "type" (Str.ofString "__eq__") "object.__eq__" := slot_type_eq

section
variable {prog : Program} {w : World} {A : Around} {E : Value → Shared → Prop} {s : Shared} {Q : Value → Shared → Prop} {X Y : String}
theorem ent_same (hX : ∀ s' : Shared, s'.TypeIs (.type X) "type") {Q : Fin → Shared → Prop} (h : Q (.done (.ret (.bool false))) s) : wpAny (model prog w) A (Builtin.«object.__ne__» ⟨[.type X, .type X], []⟩) Q E s := by
  have hc : wpAny (model prog w) A (call (.builtin "object.__eq__") [.type X, .type X]) (fun v => (fun r s' => r = some (.bool true) ∧ s' = s) (some v)) E s :=
    call_gives slot_type_eq (hX s) F.entry_object_eq (F.args_object_eq_2 _ _) (object_eq_same rfl (by simp)) ⟨rfl, rfl⟩
  have k := wpAny_callSpecialIfBound?_slot (args := [.type X]) (Q := fun r s' => r = some (.bool true) ∧ s' = s) (hX s) sl_eq3 hc
  unfold Builtin.«object.__ne__»
  repeat (first
    | with_reducible refine wpAny_cRoomFor_or (.inl rfl) ?_
    | (refine wpAny_bind (m := callSpecialIfBound? (.type X) _ [.type X]) (wpAny_mono k ?_ (fun _ _ e => e)); rintro r s' ⟨rfl, rfl⟩)
    | (refine wpAny_bind (m := truthy (.bool _)) (wpAny_truthy_bool ?_))
    | wp_step)
  exact h
theorem ent_other (hX : ∀ s' : Shared, s'.TypeIs (.type X) "type") (ne : (Value.type X == Value.type Y) = false) {Q : Fin → Shared → Prop} (h : Q (.done (.ret .notImplemented)) s) :
    wpAny (model prog w) A (Builtin.«object.__ne__» ⟨[.type X, .type Y], []⟩) Q E s := by
  have hc : wpAny (model prog w) A (call (.builtin "object.__eq__") [.type X, .type Y]) (fun v => (fun r s' => r = some .notImplemented ∧ s' = s) (some v)) E s :=
    call_gives slot_type_eq (hX s) F.entry_object_eq (F.args_object_eq_2 _ _) (object_eq_other rfl ne) ⟨rfl, rfl⟩
  have k := wpAny_callSpecialIfBound?_slot (args := [.type Y]) (Q := fun r s' => r = some .notImplemented ∧ s' = s) (hX s) sl_eq3 hc
  unfold Builtin.«object.__ne__»
  repeat (first
    | with_reducible refine wpAny_cRoomFor_or (.inl rfl) ?_
    | (refine wpAny_bind (m := callSpecialIfBound? (.type X) _ [.type Y]) (wpAny_mono k ?_ (fun _ _ e => e)); rintro r s' ⟨rfl, rfl⟩)
    | wp_step)
  exact h
theorem ne_same (hX : ∀ s' : Shared, s'.TypeIs (.type X) "type") (h : Q (.bool false) s) : wpAny (model prog w) A (compareOp .NotEq (.type X) (.type X)) Q E s := by
  show wpAny _ A (richCompare .NotEq _ _) Q E s
  exact wpAny_richCompare_same (op := .NotEq) (hX s) (hX s) sl_ne (wpAny_call_entry sl_ne (hX s) F.cmpEntry_ne (ent_same hX ⟨_, rfl, (by intro e; cases e), h⟩) (F.cmpArgs_ne _ _))
theorem ne_other (hX : ∀ s' : Shared, s'.TypeIs (.type X) "type") (hY : ∀ s' : Shared, s'.TypeIs (.type Y) "type") (ne : (Value.type X == Value.type Y) = false) (h : Q (.bool true) s) :
    wpAny (model prog w) A (compareOp .NotEq (.type X) (.type Y)) Q E s := by
  have ne' : (Value.type Y == Value.type X) = false := beq_eq_false_iff_ne.mpr fun e => beq_eq_false_iff_ne.mp ne e.symm
  have c1 : wpAny (model prog w) A (call (.builtin "object.__ne__") [.type Y, .type X]) (fun v s₂ => v = .notImplemented ∧ Q (.bool true) s₂) E s :=
    wpAny_call_entry sl_ne2 (hY s) F.cmpEntry_ne (ent_other hY ne' ⟨_, rfl, rfl, h⟩) (F.cmpArgs_ne _ _)
  have c2 : wpAny (model prog w) A (call (.builtin "object.__ne__") [.type X, .type Y]) (fun v s₁ => v = .notImplemented ∧ wpAny (model prog w) A (call (.builtin "object.__ne__") [.type Y, .type X]) (fun v s₂ => v = .notImplemented ∧ Q (.bool true) s₂) E s₁) E s :=
    wpAny_call_entry sl_ne (hX s) F.cmpEntry_ne (ent_other hX ne ⟨_, rfl, rfl, c1⟩) (F.cmpArgs_ne _ _)
  show wpAny _ A (richCompare .NotEq _ _) Q E s
  have h1 := sl_ne
  have h2 := sl_ne2
  rcases hi : cmpInfo CmpOp.NotEq with ⟨sym, f, r⟩
  rw [hi] at h1 h2
  simp only [richCompare, hi, (hX s).oneThing_none]
  try with_reducible refine wpAny_holding ?_
  refine wpAny_bind (wpAny_cRoomFor_or (.inl rfl) ?_)
  refine wpAny_bind (wpAny_typeOf (hX s) (wpAny_bind (wpAny_typeOf (hY s) ?_)))
  simp only [bne_self_eq_false, Bool.false_eq_true, if_false, pure_bind, Bool.not_false, if_true]
  refine wpAny_bind (m := tryCompare (.type X) _ (.type Y)) (wpAny_tryCompare_declines (hX s) h1 (wpAny_mono c2 ?_ fun _ _ x => x))
  rintro v s1 ⟨e1, z1⟩
  refine ⟨e1, wpAny_bind (m := tryCompare (.type Y) _ (.type X)) (wpAny_tryCompare_declines (hY s1) h2 (wpAny_mono z1 ?_ fun _ _ x => x))⟩
  rintro v s2 ⟨e2, z2⟩
  refine ⟨e2, ?_⟩
  refine wpAny_bind (wpAny_rule (wpAny_bind (wpAny_of_eq (isSame_plain rfl) (wpAny_pure ?_))))
  rw [ne]
  exact z2
end
theorem op_neTy {X : Cx} {a b : String} (ha : ∀ s' : Shared, s'.TypeIs (.type a) "type") (hb : ∀ s' : Shared, s'.TypeIs (.type b) "type") : OpR X (compareOp .NotEq) (fun x y H Q => x = .ty a ∧ y = .ty b ∧ Q (.bl (!decide (a = b))) H) := by
  intro pins s σ H x y v u Q I rx ry h
  obtain ⟨rfl, rfl, q⟩ := h
  cases (show v = Value.type a from rx)
  cases (show u = Value.type b from ry)
  by_cases e : a = b
  · subst e
    exact ne_same ha ⟨.bl false, H, I, rfl, by simpa using q⟩
  · exact ne_other ha hb (beq_eq_false_iff_ne.mpr fun z => e (Value.type.inj z)) ⟨.bl true, H, I, rfl, by simpa [e] using q⟩
end TL
set_option Elab.async false
set_option linter.all false
set_option maxRecDepth 100000
namespace TL
open PySem PySem.Spec L2
open PyProof.Rows hiding St
def tyN : D → String
  | .none => "NoneType"
  | .bool _ => "bool"
  | .int _ => "int"
  | .str _ => "str"
  | .list _ => "list"
  | .tuple _ => "tuple"
  | .dict _ => "dict"
theorem Rp.ty {K : PySem.W.Frag} {Hs H : Hp} (sm : Same Hs H) {v : V} {d : D} (r : Rp K Hs v d) : TyX K H v (.type (tyN d)) := by
  cases r with
  | n => exact .base .non
  | b k => exact .base (.bl k)
  | i k => exact .base (.int k)
  | s k => exact .base (.str k)
  | l h r =>
    rcases same_rd sm h with (h | ⟨o, h⟩) | ⟨o, its, n, h1, h2, h3⟩
    · exact .base (.lst h)
    · exact .base (.frz h)
    · exact .kList h1 h2
  | t h r =>
    rcases same_seqT sm h with (h | ⟨o, h⟩) | ⟨o, its, n, h1, h2, h3⟩
    · exact .base (.tup h)
    · exact .fTuple h
    · exact .kTuple h1 h2
  | d h r =>
    rcases h with h | ⟨o, h⟩
    · exact .base (.dK (sm _ _ h))
    · exact .fDict (sm _ _ h)
def TyC (K : PySem.W.Frag) (H : Hp) (x : V) (T : String) : Prop := TyB K H x T ∨ ∃ (a : Addr) (o : Obj) (kvs : List (Key × V)), x = .ref a ∧ T = "dict" ∧ H a = some (.frz o (.dK kvs))
def rTypC (K : PySem.W.Frag) : List V → Hp → VK → Prop := fun xs H Q => ∃ x T, xs = [x] ∧ TyC K H x T ∧ Q (.ty T) H
theorem call_typeC {X : Cx} : CallR X (.type "type") (rTypC X.K) := by
  intro pins s σ H xs us Q I r h
  obtain ⟨x, T, rfl, t, q⟩ := h
  obtain ⟨u, rfl, rx⟩ := vals1 r
  rcases t with t | ⟨a, o, kvs, rfl, rfl, h⟩
  · exact call_type_of (t.is I rx) t.nb ⟨.ty T, H, I, rfl, q⟩
  · cases rx
    obtain ⟨_, _, vs, _, p⟩ := dk_rd I.hok (.inr ⟨o, h⟩)
    exact call_type_of p.typeIs (by decide +kernel) ⟨.ty "dict", H, I, rfl, q⟩
theorem Rp.tyB {K : PySem.W.Frag} {Hs H : Hp} (sm : Same Hs H) {v : V} {d : D} (r : Rp K Hs v d) : TyC K H v (tyN d) := by
  cases r with
  | n => exact .inl .non
  | b k => exact .inl (.bl k)
  | i k => exact .inl (.int k)
  | s k => exact .inl (.str k)
  | l h r => exact .inl (.lst ((same_rd sm h)))
  | t h r => exact .inl (.tup (same_seqT sm h))
  | d h r =>
    rcases h with h | ⟨o, h⟩
    · exact .inl (.dK (sm _ _ h))
    · exact .inr ⟨_, o, _, rfl, rfl, sm _ _ h⟩
def isT (T : String) (d : D) : Bool := decide (tyN d = T) || (decide (T = "int") && decide (tyN d = "bool"))
def TyOk (T : String) : Prop := T = "int" ∨ T = "bool" ∨ T = "str" ∨ T = "list" ∨ T = "tuple" ∨ T = "dict"
def tyNs : List String := ["NoneType", "bool", "int", "str", "list", "tuple", "dict"]
theorem tyN_mem (d : D) : tyN d ∈ tyNs := by cases d <;> simp [tyN, tyNs]
theorem kit_all : ∀ t ∈ tyNs, ∀ T ∈ ["int", "bool", "str", "list", "tuple", "dict"], kitB t T = some (decide (t = T) || (decide (T = "int") && decide (t = "bool"))) := by decide +kernel
theorem kit_isT {T : String} (h : TyOk T) (d : D) : kitB (tyN d) T = some (isT T d) :=
  kit_all _ (tyN_mem d) T (by rcases h with rfl | rfl | rfl | rfl | rfl | rfl <;> simp)
theorem meta_of {T : String} (h : TyOk T) (s : Shared) : s.TypeIs (.type T) "type" := by
  rcases h with rfl | rfl | rfl | rfl | rfl | rfl
  · exact TypeEq.meta_int s
  · exact TypeEq.meta_bool s
  · exact TypeEq.meta_str s
  · exact TypeEq.meta_list s
  · exact TypeEq.meta_tuple s
  · exact TypeEq.meta_dict s
theorem meta_d (d : D) (s : Shared) : s.TypeIs (.type (tyN d)) "type" := by
  cases d
  · exact TypeEq.meta_NoneType s
  · exact TypeEq.meta_bool s
  · exact TypeEq.meta_int s
  · exact TypeEq.meta_str s
  · exact TypeEq.meta_list s
  · exact TypeEq.meta_tuple s
  · exact TypeEq.meta_dict s

def lenD : List D → Option D
  | [.list xs] => some (.int xs.length)
  | [.tuple xs] => some (.int xs.length)
  | [.str z] => if z.length ≤ LN then some (.int z.length) else none
  | [.dict kvs] => some (.int kvs.length)
  | _ => none
mutual
/-- the dicts in it are empty -/
def emptyD : D → Bool
  | .list ds => emptyDs ds
  | .tuple ds => emptyDs ds
  | .dict kvs => kvs.isEmpty
  | _ => true
def emptyDs : List D → Bool
  | [] => true
  | d :: ds => emptyD d && emptyDs ds
end
def maxD : List D → Option D
  | [.int i, .int j] => some (.int (if j > i then j else i))
  | _ => none
def minD : List D → Option D
  | [.int i, .int j] => some (.int (if j < i then j else i))
  | _ => none
def boolsD : List D → Option (List Bool)
  | [] => some []
  | .bool b :: r => (boolsD r).map (b :: ·)
  | _ => none
theorem bools_eq : ∀ {ds : List D} {bs : List Bool}, boolsD ds = some bs → ds = bs.map PyData.bool
  | [], _, h => by simp only [boolsD, Option.some.injEq] at h; subst h; rfl
  | d :: ds, bs, h => by
    cases d <;> simp only [boolsD] at h <;> try contradiction
    rename_i b
    cases e : boolsD ds with
    | none => rw [e] at h; cases h
    | some r => rw [e] at h; simp only [Option.map_some, Option.some.injEq] at h; subst h; rw [bools_eq e]; rfl
theorem bools_map : ∀ bs : List Bool, boolsD (bs.map PyData.bool) = some bs
  | [] => rfl
  | b :: r => by simp only [List.map_cons, boolsD, bools_map r, Option.map_some]
def allD : List D → Option D
  | [.list ds] => (boolsD ds).map fun bs => .bool (bs.all id)
  | _ => none
section
variable {X : Cx}
theorem one_of {X : Cx} {K : PySem.W.Frag} {Hs : Hp} {xs : List V} {d : D} (r : RpL K Hs xs [d]) : ∃ v, xs = [v] ∧ Rp K Hs v d := by
  cases r with
  | cons h r => cases r; exact ⟨_, rfl, h⟩
theorem two_of {K : PySem.W.Frag} {Hs : Hp} {xs : List V} {d e : D} (r : RpL K Hs xs [d, e]) : ∃ v u, xs = [v, u] ∧ Rp K Hs v d ∧ Rp K Hs u e := by
  cases r with
  | cons h r => cases r with | cons g r => cases r; exact ⟨_, _, rfl, h, g⟩
theorem cd_len : ClD X (.builtin "len") lenD := by
  intro pins s σ Hs H xs us as d Q I sm rv ra e q
  match as, ra, e with
  | [.list ds], ra, e =>
    cases ra with
    | cons h r =>
      cases r
      cases h with
      | l h r =>
        injection e with e; subst e
        exact call_len_seq pins s σ H _ us Q I rv ⟨_, _, rfl, .inl (same_rd sm h), by rw [r.len]; exact q.at sm (.i _)⟩
  | [.tuple ds], ra, e =>
    cases ra with
    | cons h r =>
      cases r
      cases h with
      | t h r =>
        injection e with e; subst e
        exact call_len_seq pins s σ H _ us Q I rv ⟨_, _, rfl, .inr (same_seqT sm h), by rw [r.len]; exact q.at sm (.i _)⟩
  | [.dict kvs], ra, e =>
    cases ra with
    | cons h r =>
      cases r
      cases h with
      | d h r =>
        injection e with e; subst e
        obtain ⟨u, rfl, ru⟩ := vals1 rv
        cases ru
        refine d_len I (same_rdO sm h) fun t s' I' => ⟨.int _, H, I', ⟨t, rfl⟩, ?_⟩
        rw [r.len]; exact q.at sm (.i _)
  | [.str z], ra, e =>
    cases ra with
    | cons h r =>
      cases r
      cases h with
      | s k =>
        simp only [lenD] at e
        split at e <;> try contradiction
        rename_i hz
        injection e with e; subst e
        exact call_len_str pins s σ H _ us Q I rv ⟨_, rfl, by rw [ln_eq]; exact hz, q.at sm (.i _)⟩
theorem cd_max (hc : X.calm = true) : ClD X (.builtin "max") maxD := by
  intro pins s σ Hs H xs us as d Q I sm rv ra e q
  match as, ra, e with
  | [.int i, .int j], ra, e =>
    obtain ⟨v, u, rfl, h1, h2⟩ := two_of ra
    cases h1; cases h2
    injection e with e; subst e
    exact call_max2 hc pins s σ H _ us Q I rv ⟨_, _, rfl, q.at sm (.i _)⟩
theorem cd_min (hc : X.calm = true) : ClD X (.builtin "min") minD := by
  intro pins s σ Hs H xs us as d Q I sm rv ra e q
  match as, ra, e with
  | [.int i, .int j], ra, e =>
    obtain ⟨v, u, rfl, h1, h2⟩ := two_of ra
    cases h1; cases h2
    injection e with e; subst e
    exact call_min2 hc pins s σ H _ us Q I rv ⟨_, _, rfl, q.at sm (.i _)⟩
theorem cd_all (hc : X.calm = true) : ClD X (.builtin "all") allD := by
  intro pins s σ Hs H xs us as d Q I sm rv ra e q
  match as, ra, e with
  | [.list ds], ra, e =>
    obtain ⟨v, rfl, h1⟩ := one_of (X := X) ra
    simp only [allD] at e
    cases eb : boolsD ds with
    | none => rw [eb] at e; cases e
    | some bs =>
      rw [eb] at e; injection e with e; subst e
      rw [bools_eq eb] at h1
      cases h1 with
      | l h r =>
        have := r.isBools; subst this
        exact cr_all hc pins s σ H _ us Q I rv ⟨_, _, rfl, (same_rd sm h), q.at sm (.b _)⟩
theorem dict_apart {pins : List (Addr × Obj)} {σ : St} {H : Hp} {s : Shared} (I : Inv X pins σ H s) {u : Value} {v : V} {as : List Addr} (h : Rp X.K H v (.dict [])) (r : RelV v u) (rd : Reads s.heap u (.dict []) as) : sysModules ∉ as := by
  cases h with
  | @d a vs _ h k =>
    have ha : (a == sysModules) = false := (dk_rd I.hok h).2.1
    cases r
    cases rd with
    | @dict _ o es n _ as bs e1 e2 e3 e4 e5 =>
      generalize es.toList.map (·.key) = k4' at e4
      generalize es.toList.map (·.val) = k5' at e5
      cases e4
      cases e5
      intro z
      have z' : sysModules = a := by simpa using z
      rw [z'] at ha
      simp at ha
mutual
theorem rk_rp {pins : List (Addr × Obj)} {σ : St} {H : Hp} {s : Shared} (I : Inv X pins σ H s) : ∀ (d : D) (v : V) (u : Value), Rp X.K H v d → RelV v u → d.showable = true → d.shown.length ≤ sizeLine → emptyD d = true → ∃ as, Reads s.heap u d as ∧ ∃ bs, ReadAtMost s.heap d.depth bs ∧ ReprK X.prog X.w bs s.heap d.depth u d.shown
  | .none, _, _, h, r, hs, hz, _ => let ⟨as, rd⟩ := Rp.rd I _ _ _ h r; ⟨as, rd, ReprK.of_reads rd hs (fun z => by simp [PyData.hasDict] at z) hz⟩
  | .bool _, _, _, h, r, hs, hz, _ => let ⟨as, rd⟩ := Rp.rd I _ _ _ h r; ⟨as, rd, ReprK.of_reads rd hs (fun z => by simp [PyData.hasDict] at z) hz⟩
  | .int _, _, _, h, r, hs, hz, _ => let ⟨as, rd⟩ := Rp.rd I _ _ _ h r; ⟨as, rd, ReprK.of_reads rd hs (fun z => by simp [PyData.hasDict] at z) hz⟩
  | .str _, _, _, h, r, hs, hz, _ => let ⟨as, rd⟩ := Rp.rd I _ _ _ h r; ⟨as, rd, ReprK.of_reads rd hs (fun z => by simp [PyData.hasDict] at z) hz⟩
  | .list ds, _, u, h, r, hs, hz, he => by
    cases h with
    | @l a vs _ g k =>
      cases r
      obtain ⟨its, rv, ⟨o, n, e1, e2, _, e3⟩, _⟩ := I.list g
      have zz : (listText (PyData.shownAll ds)).length ≤ sizeLine := by simpa only [PyData.shown] using hz
      obtain ⟨as, q, bs, hb, hk⟩ := rks_rp I ds _ its k rv (by simpa [PyData.showable] using hs) (fun t ht => Nat.le_trans (listText_mem_le ht) zz) (by simpa [emptyD] using he)
      have rr : Reads s.heap (.ref a) (.list ds) (a :: as) := .list e1 e2 e3 q
      have na : a ∉ bs := not_mem_of_deeper rr (by simp only [PyData.depth]; omega) hb
      refine ⟨_, rr, a :: bs, ReadAtMost.cons rr (by simp only [PyData.depth]; omega) hb, ?_⟩
      simp only [PyData.depth, PyData.shown]
      cases its with
      | nil => cases q; simp only [PyData.shownAll, listText_nil]; exact ReprK.listEmpty e1 e2 e3
      | cons x its => exact ReprK.list e1 e2 e3 na (by simpa using hk.length_eq) fun i y e => hk.item i y (by simpa using e)
  | .tuple ds, _, u, h, r, hs, hz, he => by
    cases h with
    | @t a vs _ g k =>
      cases r
      obtain ⟨its, rv, ⟨o, e1, e2, n, e3⟩, _⟩ := I.tuple g
      have zz : (tupleText (PyData.shownAll ds)).length ≤ sizeLine := by simpa only [PyData.shown] using hz
      obtain ⟨as, q, bs, hb, hk⟩ := rks_rp I ds _ its k rv (by simpa [PyData.showable] using hs) (fun t ht => Nat.le_trans (tupleText_mem_le ht) zz) (by simpa [emptyD] using he)
      have rr : Reads s.heap (.ref a) (.tuple ds) as := .tuple e1 e2 e3 q
      have na : a ∉ bs := not_mem_of_deeper rr (by simp only [PyData.depth]; omega) hb
      refine ⟨_, rr, a :: bs, ReadAtMost.cons rr (by simp only [PyData.depth]; omega) hb, ?_⟩
      simp only [PyData.depth, PyData.shown]
      exact ReprK.tuple e1 e2 e3 na hk
  | .dict kvs, _, u, h, r, hs, hz, he => by
    have hk : kvs = [] := by simpa [emptyD] using he
    subst hk
    obtain ⟨as, rd⟩ := Rp.rd I _ _ _ h r
    exact ⟨as, rd, ReprK.of_reads rd hs (fun _ => dict_apart I h r rd) hz⟩
theorem rks_rp {pins : List (Addr × Obj)} {σ : St} {H : Hp} {s : Shared} (I : Inv X pins σ H s) : ∀ (ds : List D) (vs : List V) (us : List Value), RpL X.K H vs ds → Vals vs us → PyData.showableAll ds = true → (∀ t ∈ PyData.shownAll ds, t.length ≤ sizeLine) → emptyDs ds = true → ∃ as, ReadsAll s.heap us ds as ∧ ∃ bs, ReadAtMost s.heap (PyData.depthAll ds) bs ∧ ReprAllK X.prog X.w bs s.heap (PyData.depthAll ds) us (PyData.shownAll ds)
  | [], _, _, h, r, _, _, _ => by
    cases h; cases r
    exact ⟨_, .nil, [], (fun _ h => nomatch h), by simp only [PyData.shownAll]; exact .nil⟩
  | d :: ds, _, _, h, r, hs, hz, he => by
    cases h with
    | cons h1 h2 =>
      cases r with
      | cons r1 r2 =>
        have he2 : emptyD d = true ∧ emptyDs ds = true := by simpa [emptyDs] using he
        have hs2 : d.showable = true ∧ PyData.showableAll ds = true := by simpa [PyData.showableAll] using hs
        obtain ⟨a1, q1, b1, hb1, k1⟩ := rk_rp I d _ _ h1 r1 hs2.1 (hz _ (by simp only [PyData.shownAll]; exact List.mem_cons_self ..)) he2.1
        obtain ⟨a2, q2, b2, hb2, k2⟩ := rks_rp I ds _ _ h2 r2 hs2.2 (fun t ht => hz t (by simp only [PyData.shownAll]; exact List.mem_cons_of_mem _ ht)) he2.2
        refine ⟨_, .cons q1 q2, b1 ++ b2, (hb1.mono (by simp only [PyData.depthAll]; omega)).append (hb2.mono (by simp only [PyData.depthAll]; omega)), ?_⟩
        simp only [PyData.depthAll, PyData.shownAll]
        exact .cons ((k1.more fun b m => List.mem_append_left _ m).level_le (Nat.le_max_left _ _)) (k2.more_le (fun b m => List.mem_append_right _ m) (Nat.le_max_right _ _))
end
end
end TL
set_option Elab.async false
set_option linter.all false
set_option maxRecDepth 100000
namespace TL
open PySem PySem.Spec L2
open PyProof.Rows hiding St
def negD : D → Option D
  | .int i => some (.int (-i))
  | _ => none
def ixD : D → D → Option D
  | .list xs, .int i => atI xs i
  | .tuple xs, .int i => atI xs i
  | .str z, .int i => if z.length ≤ LN then (atI z.cps.toList i).map fun c => .str ⟨#[c]⟩ else none
  | _, _ => none
def cutX {α : Type} (xs : List α) (lo hi : Option Int) : List α := (xs.drop (HT.sIx xs.length 0 lo)).take (HT.sIx xs.length xs.length hi - HT.sIx xs.length 0 lo)
def isNoneD (d : D) : Bool := match d with
  | .none => true
  | _ => false
section
variable {X : Cx}
theorem od_mod : OpD X (binaryOp .Mod) modD := by
  intro pins s σ Hs H x y v u a b d Q I sm rx ry ra rb e q
  cases ra <;> cases rb <;> simp only [modD] at e <;> try contradiction
  split at e <;> try contradiction
  rename_i h
  injection e with e; subst e
  exact op_modN pins s σ H _ _ v u Q I rx ry ⟨_, _, rfl, rfl, h, q.at sm (.i _)⟩
theorem od_div : OpD X (binaryOp .FloorDiv) divD := by
  intro pins s σ Hs H x y v u a b d Q I sm rx ry ra rb e q
  cases ra <;> cases rb <;> simp only [divD] at e <;> try contradiction
  split at e <;> try contradiction
  rename_i h
  injection e with e; subst e
  exact op_fdivW pins s σ H _ _ v u Q I rx ry ⟨_, _, rfl, rfl, h, q.at sm (.i _)⟩
theorem op_powX : OpR X (binaryOp .Pow) (rI (fun i n => 0 ≤ n ∧ (Builtin.Int.intBits i : Int) * n ≤ 2 ^ 27) fun i n => .int (i ^ n.toNat)) := opI fun _ _ _ _ _ _ _ hc q => pow_int hc.1 hc.2 q
theorem pow_bits {a : Nat} {n : Int} (h1 : 0 ≤ n) (h2 : a * n.natAbs ≤ 134217728) : (a : Int) * n ≤ 2 ^ 27 := by
  obtain ⟨m, rfl⟩ := Int.eq_ofNat_of_zero_le h1
  have h3 : a * m ≤ 134217728 := h2
  have : ((a * m : Nat) : Int) ≤ ((134217728 : Nat) : Int) := Int.ofNat_le.2 h3
  rw [Int.natCast_mul] at this
  exact this
theorem od_pow : OpD X (binaryOp .Pow) powD := by
  intro pins s σ Hs H x y v u a b d Q I sm rx ry ra rb e q
  cases ra <;> cases rb <;> simp only [powD] at e <;> try contradiction
  split at e <;> try contradiction
  rename_i h
  injection e with e; subst e
  refine op_powX pins s σ H _ _ v u Q I rx ry ⟨_, _, rfl, rfl, ⟨h.1, ?_⟩, q.at sm (.i _)⟩
  exact pow_bits h.1 h.2
theorem eqOk1 {a b : D} (h : eqOk a b = true) : a.plain = true := by
  unfold eqOk at h; rw [Bool.and_eq_true, Bool.and_eq_true] at h; exact h.1.1
theorem eqOk2 {a b : D} (h : eqOk a b = true) : b.plain = true := by
  unfold eqOk at h; rw [Bool.and_eq_true, Bool.and_eq_true] at h; exact h.1.2
theorem eqOk3 {a b : D} {n : Nat} (h : eqOk a b = true) (hu : n + 64 < cLine) : n + min a.depth b.depth < cLine := by
  unfold eqOk at h; rw [Bool.and_eq_true] at h
  have := of_decide_eq_true h.2
  omega
theorem od_eq (hu : X.A.units + 64 < cLine) : OpD X (compareOp .Eq) eqD := by
  intro pins s σ Hs H x y v u a b d Q I sm rx ry ra rb e q
  unfold eqD at e
  split at e <;> try contradiction
  rename_i h
  injection e with e; subst e
  obtain ⟨as, r1⟩ := Rp.rd I a x v (ra.sm sm) rx
  obtain ⟨bs, r2⟩ := Rp.rd I b y u (rb.sm sm) ry
  exact PySem.SeqAt.eq_plain r1 r2 (eqOk1 h) (eqOk2 h) (eqOk3 h hu) ⟨.bl _, H, I, rfl, q.at sm (.b _)⟩
theorem od_ne (hu : X.A.units + 64 < cLine) : OpD X (compareOp .NotEq) neD := by
  intro pins s σ Hs H x y v u a b d Q I sm rx ry ra rb e q
  unfold neD at e
  split at e <;> try contradiction
  rename_i h
  injection e with e; subst e
  obtain ⟨as, r1⟩ := Rp.rd I a x v (ra.sm sm) rx
  obtain ⟨bs, r2⟩ := Rp.rd I b y u (rb.sm sm) ry
  exact PySem.SeqAt.ne_plain r1 r2 (eqOk1 h) (eqOk2 h) (eqOk3 h hu) ⟨.bl _, H, I, rfl, q.at sm (.b _)⟩
theorem od_lt : OpD X (compareOp .Lt) ltD := by
  intro pins s σ Hs H x y v u a b d Q I sm rx ry ra rb e q
  cases ra <;> cases rb <;> simp only [ltD] at e <;> try contradiction
  injection e with e; subst e
  exact op_lt pins s σ H _ _ v u Q I rx ry ⟨_, _, rfl, rfl, q.at sm (.b _)⟩
theorem od_le : OpD X (compareOp .LtE) leD := by
  intro pins s σ Hs H x y v u a b d Q I sm rx ry ra rb e q
  cases ra <;> cases rb <;> simp only [leD] at e <;> try contradiction
  injection e with e; subst e
  exact op_le pins s σ H _ _ v u Q I rx ry ⟨_, _, rfl, rfl, q.at sm (.b _)⟩
theorem od_gt : OpD X (compareOp .Gt) gtD := by
  intro pins s σ Hs H x y v u a b d Q I sm rx ry ra rb e q
  cases ra <;> cases rb <;> simp only [gtD] at e <;> try contradiction
  injection e with e; subst e
  exact op_gt pins s σ H _ _ v u Q I rx ry ⟨_, _, rfl, rfl, q.at sm (.b _)⟩
theorem flat_of {K : PySem.W.Frag} {H : Hp} {v : V} {d : D} (r : Rp K H v d) (f : flatD d = true) : flatV v = true := by
  cases r <;> first | rfl | (simp [flatD] at f)
theorem eqV_of {K : PySem.W.Frag} {H : Hp} {v u : V} {d e : D} (r : Rp K H v d) (q : Rp K H u e) (f : flatD d = true) (g : flatD e = true) : eqV v u = PyData.eqv d e := by
  cases r <;> cases q <;> first | (simp [flatD] at f; done) | (simp [flatD] at g; done) | (simp [eqV, PyData.eqv]; done) | rfl
theorem any_of {K : PySem.W.Frag} {H : Hp} {u : V} {e : D} (q : Rp K H u e) (g : flatD e = true) : ∀ {vs : List V} {ds : List D}, RpL K H vs ds → ds.all flatD = true → vs.all flatV = true ∧ inV u vs = ds.any fun y => PyData.eqv y e
  | [], [], _, _ => ⟨rfl, rfl⟩
  | _ :: _, [], h, _ => by cases h
  | [], _ :: _, h, _ => by cases h
  | v :: vs, d :: ds, h, f => by
    cases h with
    | cons h r =>
      rw [List.all_cons, Bool.and_eq_true] at f
      obtain ⟨i1, i2⟩ := any_of q g r f.2
      refine ⟨by rw [List.all_cons, flat_of h f.1, i1]; rfl, ?_⟩
      show (eqV v u || inV u vs) = _
      rw [i2, eqV_of h q f.1 g]
      rfl
theorem od_in : OpD X (compareOp .In) inD := by
  intro pins s σ Hs H x y v u a b d Q I sm rx ry ra rb e q
  cases rb <;> simp only [inD, itemsD, Option.bind_none, Option.bind_some] at e <;> try contradiction
  · rename_i l vs ds h r
    split at e <;> try contradiction
    rename_i hf
    injection e with e; subst e
    obtain ⟨k1, k2⟩ := any_of ra hf.1 r hf.2
    refine op_in_seq pins s σ H _ _ v u Q I rx ry ⟨_, _, rfl, .inl (same_rd sm h), flat_of ra hf.1, k1, ?_⟩
    simp only [Bool.false_eq_true, if_false, k2]
    exact q.at sm (.b _)
  · rename_i l vs ds h r
    split at e <;> try contradiction
    rename_i hf
    injection e with e; subst e
    obtain ⟨k1, k2⟩ := any_of ra hf.1 r hf.2
    refine op_in_seq pins s σ H _ _ v u Q I rx ry ⟨_, _, rfl, .inr (same_seqT sm h), flat_of ra hf.1, k1, ?_⟩
    simp only [Bool.false_eq_true, if_false, k2]
    exact q.at sm (.b _)
def IxD (X : Cx) (g : D → D → Option D) : Prop :=
  ∀ (value slice : Expr) (pins : List (Addr × Obj)) (s : Shared) (σ : L2.St) (Hs H : Hp) (x y : V) (v u : Value) (a b d : D) (Q : VK), Inv X pins σ H s → Same Hs H → RelV x v → RelV y u → Rp X.K Hs x a → Rp X.K Hs y b → g a b = some d → PoV X.K Hs H d Q →
    subscripted slice false v u = operate [v, u] (getItem v u) → wpAny (model X.prog X.w) X.A (subscriptTail value slice v u) (EP X pins σ Q) X.xe s
theorem atI_rp {K : PySem.W.Frag} {H : Hp} {vs : List V} {ds : List D} {i : Int} {d : D} (r : RpL K H vs ds) (e : atI ds i = some d) : ∃ v, atI vs i = some v ∧ Rp K H v d := by
  unfold atI at e ⊢
  rw [r.len]
  cases h : ixN ds.length i with
  | none => rw [h] at e; cases e
  | some j => rw [h] at e; exact r.get e
theorem xd_ix : IxD X ixD := by
  intro value slice pins s σ Hs H x y v u a b d Q I sm rx ry ra rb e q hs
  cases ra <;> cases rb <;> simp only [ixD] at e <;> try contradiction
  · split at e <;> try contradiction
    rename_i z i h
    cases hc : atI z.cps.toList i with
    | none => rw [hc] at e; cases e
    | some c =>
      rw [hc] at e; injection e with e; subst e
      exact ix_str value slice pins s σ H _ _ v u Q I rx ry ⟨_, _, c, rfl, rfl, by rw [ln_eq]; exact h, hc, q.at sm (.s _)⟩ hs
  · rename_i l vs ds h r i
    obtain ⟨w, k1, k2⟩ := atI_rp r e
    exact ix_list value slice pins s σ H _ _ v u Q I rx ry ⟨_, _, _, _, rfl, rfl, (same_rd sm h), k1, q.at sm k2⟩ hs
  · rename_i l vs ds h r i
    obtain ⟨w, k1, k2⟩ := atI_rp r e
    exact ix_tup value slice pins s σ H _ _ v u Q I rx ry ⟨_, _, _, _, rfl, rfl, same_seqT sm h, k1, q.at sm k2⟩ hs
theorem Rp.isN {K : PySem.W.Frag} {H : Hp} {v : V} {d : D} (r : Rp K H v d) : decide (v = .non) = isNoneD d := by
  cases r <;> simp [isNoneD]
end
end TL
set_option Elab.async false
set_option linter.all false
set_option maxRecDepth 100000
namespace TL
open PySem PySem.Spec L2
open PyProof.Rows hiding St
def WE (X : Cx) (e : Expr) (σ : L2.St) (H : Hp) (Q : VK) : Prop := ∀ (pins : List (Addr × Obj)) (s : Shared), Inv X pins σ H s → wpAny (model X.prog X.w) X.A (eval e X.env) (EP X pins σ Q) X.xe s
def WT (X : Cx) (e : Expr) (σ : L2.St) (H : Hp) (Q : Bool → Hp → Prop) : Prop := ∀ (pins : List (Addr × Obj)) (s : Shared), Inv X pins σ H s → wpAny (model X.prog X.w) X.A (isTrue e X.env (eval e X.env)) (TP X pins σ Q) X.xe s
def WW (X : Cx) (e : Expr) (σ : L2.St) (H : Hp) (Q : Bool → Hp → Prop) : Prop := ∀ (wh : Sem Value) (pins : List (Addr × Obj)) (s : Shared), Inv X pins σ H s → wpAny (model X.prog X.w) X.A (isTrue e X.env wh) (TP X pins σ Q) X.xe s
def WA (X : Cx) (es : List Expr) (σ : L2.St) (H : Hp) (Q : List V → Hp → Prop) : Prop := ∀ (pos : Pos) (pins : List (Addr × Obj)) (s : Shared), Inv X pins σ H s → wpAny (model X.prog X.w) X.A (spliced (backTo pos (starEach es X.env))) (AP X pins σ Q) X.xe s
def WS (X : Cx) (st : Stmt) (D : Ends) (σ : L2.St) (H : Hp) : Prop := ∀ (pins : List (Addr × Obj)) (s : Shared), Inv X pins σ H s → wpAny (model X.prog X.w) X.A (exec st X.env) (SP X pins D) X.xe s
def WB (X : Cx) (st : List Stmt) (D : Ends) (σ : L2.St) (H : Hp) : Prop := ∀ (pins : List (Addr × Obj)) (s : Shared), Inv X pins σ H s → wpAny (model X.prog X.w) X.A (execs st X.env) (SP X pins D) X.xe s
section
variable {X : Cx} {e : Expr} {es : List Expr} {st : Stmt} {bd : List Stmt}
theorem pe_we : PE X e (WE X e) := ⟨fun pins s σ H Q I h => h pins s I⟩
theorem pt_wt : PT X e (WT X e) := ⟨fun pins s σ H Q I h => h pins s I⟩
theorem pw_ww : PW X e (WW X e) := ⟨fun wh pins s σ H Q I h => h wh pins s I⟩
theorem pa_wa : PA X es (WA X es) := ⟨fun pos pins s σ H Q I h => h pos pins s I⟩
theorem ps_ws : PS X st (fun D σ H => WS X st D σ H) := ⟨fun pins s σ H D I h => h pins s I⟩
theorem pss_wb : PSs X bd (fun D σ H => WB X bd D σ H) := ⟨fun pins s σ H D I h => h pins s I⟩
theorem we_of {t : TE} {σ : L2.St} {H : Hp} {Q : VK} (h : PE X e t) (q : t σ H Q) : WE X e σ H Q := fun pins s I => h.run pins s σ H Q I q
theorem wt_of {t : TT} {σ : L2.St} {H : Hp} {Q : Bool → Hp → Prop} (h : PT X e t) (q : t σ H Q) : WT X e σ H Q := fun pins s I => h.run pins s σ H Q I q
theorem ww_of {t : TT} {σ : L2.St} {H : Hp} {Q : Bool → Hp → Prop} (h : PW X e t) (q : t σ H Q) : WW X e σ H Q := fun wh pins s I => h.run wh pins s σ H Q I q
theorem wa_of {t : TA} {σ : L2.St} {H : Hp} {Q : List V → Hp → Prop} (h : PA X es t) (q : t σ H Q) : WA X es σ H Q := fun pos pins s I => h.run pos pins s σ H Q I q
theorem ws_of {t : TS} {σ : L2.St} {H : Hp} {D : Ends} (h : PS X st t) (q : t D σ H) : WS X st D σ H := fun pins s I => h.run pins s σ H D I q
theorem wb_of {t : TS} {σ : L2.St} {H : Hp} {D : Ends} (h : PSs X bd t) (q : t D σ H) : WB X bd D σ H := fun pins s I => h.run pins s σ H D I q
end
abbrev FD := Ev → Option D
abbrev FL := Ev → Option (List D)
abbrev FB := Ev → Option Bool
def PV (X : Cx) (e : Expr) (f : FD) : Prop := ∀ (env : Ev) (σ : L2.St) (fp : Fp) (Hs H : Hp) (d : D) (Q : VK), Rl X.K Hs H env σ fp → f env = some d → PoV X.K Hs H d Q → WE X e σ H Q
def FV (X : Cx) (e : Expr) (f : FL) : Prop := ∀ (env : Ev) (σ : L2.St) (fp : Fp) (Hs H : Hp) (d : List D) (Q : VK), Rl X.K Hs H env σ fp → f env = some d → PoF X.K Hs H d Q → WE X e σ H Q
def PTV (X : Cx) (e : Expr) (f : FB) : Prop := ∀ (env : Ev) (σ : L2.St) (fp : Fp) (Hs H : Hp) (d : Bool) (Q : Bool → Hp → Prop), Rl X.K Hs H env σ fp → f env = some d → (∀ Hs' H', Grow Hs H Hs' H' → Q d H') → WT X e σ H Q
def PWV (X : Cx) (e : Expr) (f : FB) : Prop := ∀ (env : Ev) (σ : L2.St) (fp : Fp) (Hs H : Hp) (d : Bool) (Q : Bool → Hp → Prop), Rl X.K Hs H env σ fp → f env = some d → (∀ Hs' H', Grow Hs H Hs' H' → Q d H') → WW X e σ H Q
def PAV (X : Cx) (es : List Expr) (f : FL) : Prop := ∀ (env : Ev) (σ : L2.St) (fp : Fp) (Hs H : Hp) (d : List D) (Q : List V → Hp → Prop), Rl X.K Hs H env σ fp → f env = some d → (∀ Hs' H' vs, Grow Hs H Hs' H' → RpL X.K Hs' vs d → Q vs H') → WA X es σ H Q

def fVar (i : Nat) : FD := fun e => match e[i]? with | some (.sh d) => some d | _ => none
def fC (d : D) : FD := fun _ => some d
def f2 (g : D → D → Option D) (a b : FD) : FD := fun e => (a e).bind fun x => (b e).bind fun y => g x y
def f2F (g : D → D → Option (List D)) (a b : FD) : FL := fun e => (a e).bind fun x => (b e).bind fun y => g x y
def f1 (g : D → Option D) (a : FD) : FD := fun e => (a e).bind g
def fNil : FL := fun _ => some []
def fCons (a : FD) (r : FL) : FL := fun e => (a e).bind fun x => (r e).bind fun xs => some (x :: xs)
def fTup (a : FL) : FD := fun e => (a e).bind fun xs => if xs.length ≤ LN then some (.tuple xs) else none
def fLst (a : FL) : FL := fun e => (a e).bind fun xs => if xs.length ≤ LN then some xs else none
def fCall (g : List D → Option D) (a : FL) : FD := fun e => (a e).bind g
def fCallF (g : List D → Option (List D)) (a : FL) : FL := fun e => (a e).bind g
def fTold (a : FL) : FD := fun e => (a e).map PyData.list
def asB : D → Option Bool
  | .bool b => some b
  | _ => none
def fIf (c : FB) (a b : FD) : FD := fun e => (c e).bind fun k => if k then a e else b e
def fAnd (a b : FD) : FD := fun e => ((a e).bind asB).bind fun k => if k then b e else some (.bool false)
def fOr (a b : FD) : FD := fun e => ((a e).bind asB).bind fun k => if k then some (.bool true) else b e
def fNot (a : FD) : FD := fun e => ((a e).bind asB).map fun k => .bool (!k)
def fMapD (g : D → D) (a : FD) : FD := fun e => (a e).map g

section
variable {X : Cx} {a b c e : Expr} {es : List Expr} {pos : Pos} {f g h : FD} {fl gl : FL}
theorem FV.pv (h : FV X e fl) : PV X e (fTold fl) := by
  intro env σ fp Hs H d Q r e q
  unfold fTold at e
  cases ex : fl env with
  | none => rw [ex] at e; cases e
  | some xs => rw [ex] at e; injection e with e; subst e; exact h env σ fp Hs H xs Q r ex q.f
theorem pv_var (i : Nat) {x : Str} {pos : Pos} (hN : X.N[i]? = some x := by rfl) (hv : Vis X.env.scope x := by first | exact Or.inl rfl | exact Or.inr (Or.inl rfl) | exact Or.inr (Or.inr rfl)) (hd : (x == ("__debug__" : Str)) = false := by decide)
    (hcd : (x == ("__classdict__" : Str)) = false := by decide) : PV X (.Name x pos) (fVar i) := by
  intro env σ fp Hs H d Q r e q
  unfold fVar at e
  cases es : env[i]? with
  | none => rw [es] at e; cases e
  | some s =>
    rw [es] at e
    cases s <;> simp only at e <;> try contradiction
    injection e with e; subst e
    obtain ⟨o, e1, _, v, rfl, e3⟩ := r.pl i _ es
    exact we_of (pe_var hN hv hd hcd) ⟨v, e1, q.at r.sub e3⟩
theorem pv_int {i j} : PV X (.Constant (.int i) j pos) (fC (.int i)) := fun env σ fp Hs H d Q r e q => by injection e with e; subst e; exact we_of pe_int (q.at r.sub (.i _))
theorem pv_bl {i j} : PV X (.Constant (.bool i) j pos) (fC (.bool i)) := fun env σ fp Hs H d Q r e q => by injection e with e; subst e; exact we_of pe_bl (q.at r.sub (.b _))
theorem pv_non {j} : PV X (.Constant .none j pos) (fC .none) := fun env σ fp Hs H d Q r e q => by injection e with e; subst e; exact we_of pe_non (q.at r.sub .n)
theorem pv_str {i j} : PV X (.Constant (.str i) j pos) (fC (.str i)) := fun env σ fp Hs H d Q r e q => by injection e with e; subst e; exact we_of pe_str (q.at r.sub (.s _))
theorem pv_glob {x : Str} {v : V} {u : Value} {d : D} (hg : Gl X x) (hm : X.mg x = some u) (r : RelV v u) (hd : ∀ Hs, Rp X.K Hs v d) (hx : (x == ("__debug__" : Str)) = false := by decide) : PV X (.Name x pos) (fC d) := by
  intro env σ fp Hs H d' Q rl e q
  injection e with e; subst e
  exact we_of (pe_glob hg hm r hx) (q.at rl.sub (hd Hs))
theorem bind2 {α β γ : Type} {o : Option α} {k : α → Option β} {y : β} (h : o.bind k = some y) : ∃ x, o = some x ∧ k x = some y := by
  cases o with
  | none => cases h
  | some x => exact ⟨x, rfl, h⟩
theorem pv_op {op : Operator} {k : D → D → Option D} (ho : OpD X (binaryOp op) k) (ha : PV X a f) (hb : PV X b g) : PV X (.BinOp a op b pos) (f2 k f g) := by
  intro env σ fp Hs H d Q r e q
  obtain ⟨x, e1, e⟩ := bind2 (γ := Unit) e
  obtain ⟨y, e2, e⟩ := bind2 (γ := Unit) e
  intro pins s I
  refine wpAny_BinOp (thn (ha env σ fp Hs H x _ r e1 (fun Hs1 H1 v g1 r1 => hb env σ fp Hs1 H1 y (fun u H2 => ∃ Hs2, Grow Hs H Hs2 H2 ∧ Rp X.K Hs2 v x ∧ Rp X.K Hs2 u y) (g1.rl r) e2 (fun Hs2 H2 u g2 r2 => ⟨Hs2, g1.trans g2, r1.sm g2.same, r2⟩)) pins s I) ?_)
  rintro v s1 ⟨xv, H1, I1, rv, q1⟩
  refine thn (q1 pins s1 I1) ?_
  rintro u s2 ⟨yv, H2, I2, ru, Hs2, g2, k1, k2⟩
  exact ho pins s2 σ Hs2 H2 xv yv v u x y d Q I2 g2.sub rv ru k1 k2 e (q.go g2)
theorem fv_op {op : Operator} {k : D → D → Option (List D)} (ho : OpF X (binaryOp op) k) (ha : PV X a f) (hb : PV X b g) : FV X (.BinOp a op b pos) (f2F k f g) := by
  intro env σ fp Hs H d Q r e q
  obtain ⟨x, e1, e⟩ := bind2 (γ := Unit) e
  obtain ⟨y, e2, e⟩ := bind2 (γ := Unit) e
  intro pins s I
  refine wpAny_BinOp (thn (ha env σ fp Hs H x _ r e1 (fun Hs1 H1 v g1 r1 => hb env σ fp Hs1 H1 y (fun u H2 => ∃ Hs2, Grow Hs H Hs2 H2 ∧ Rp X.K Hs2 v x ∧ Rp X.K Hs2 u y) (g1.rl r) e2 (fun Hs2 H2 u g2 r2 => ⟨Hs2, g1.trans g2, r1.sm g2.same, r2⟩)) pins s I) ?_)
  rintro v s1 ⟨xv, H1, I1, rv, q1⟩
  refine thn (q1 pins s1 I1) ?_
  rintro u s2 ⟨yv, H2, I2, ru, Hs2, g2, k1, k2⟩
  exact ho pins s2 σ Hs2 H2 xv yv v u x y d Q I2 g2.sub rv ru k1 k2 e (q.go g2)
theorem pv_neg (ha : PV X a f) : PV X (.UnaryOp .USub a pos) (f1 negD f) := by
  intro env σ fp Hs H d Q r e q
  obtain ⟨x, e1, e⟩ := bind2 (γ := Unit) e
  refine we_of (pe_un un_neg pe_we) (ha env σ fp Hs H x _ r e1 fun Hs1 H1 v g1 r1 => ?_)
  cases r1 <;> simp only [negD] at e <;> try contradiction
  injection e with e; subst e
  exact ⟨_, rfl, (q.go g1).at g1.sub (.i _)⟩
theorem pv_ix (ha : PV X a f) (hb : PV X b g) (hs : PlainIx b) : PV X (.Subscript a b pos) (f2 ixD f g) := by
  intro env σ fp Hs H d Q r e q
  obtain ⟨x, e1, e⟩ := bind2 (γ := Unit) e
  obtain ⟨y, e2, e⟩ := bind2 (γ := Unit) e
  intro pins s I
  refine Subscript_ (thn (ha env σ fp Hs H x _ r e1 (fun Hs1 H1 v g1 r1 => hb env σ fp Hs1 H1 y (fun u H2 => ∃ Hs2, Grow Hs H Hs2 H2 ∧ Rp X.K Hs2 v x ∧ Rp X.K Hs2 u y) (g1.rl r) e2 (fun Hs2 H2 u g2 r2 => ⟨Hs2, g1.trans g2, r1.sm g2.same, r2⟩)) pins s I) ?_)
  rintro v s1 ⟨xv, H1, I1, rv, q1⟩
  refine thn (q1 pins s1 I1) ?_
  rintro u s2 ⟨yv, H2, I2, ru, Hs2, g2, k1, k2⟩
  exact xd_ix a b pins s2 σ Hs2 H2 xv yv v u x y d Q I2 g2.sub rv ru k1 k2 e (q.go g2) (hs _ _)
theorem pv_cmp {op : CmpOp} {k : D → D → Option D} (ho : OpD X (compareOp op) k) (ha : PV X a f) (hb : PV X b g) (h1 : behindInMarks op b = false := by first | exact nobehind _ (by decide) (by decide) | rfl) : PV X (.Compare a [op] [b] pos) (f2 k f g) := by
  intro env σ fp Hs H d Q r e q
  obtain ⟨x, e1, e⟩ := bind2 (γ := Unit) e
  obtain ⟨y, e2, e⟩ := bind2 (γ := Unit) e
  intro pins s I
  refine wpAny_Compare1 (thn (ha env σ fp Hs H x _ r e1 (fun Hs1 H1 v g1 r1 => hb env σ fp Hs1 H1 y (fun u H2 => ∃ Hs2, Grow Hs H Hs2 H2 ∧ Rp X.K Hs2 v x ∧ Rp X.K Hs2 u y) (g1.rl r) e2 (fun Hs2 H2 u g2 r2 => ⟨Hs2, g1.trans g2, r1.sm g2.same, r2⟩)) pins s I) ?_) h1
  rintro v s1 ⟨xv, H1, I1, rv, q1⟩
  refine thn (q1 pins s1 I1) ?_
  rintro u s2 ⟨yv, H2, I2, ru, Hs2, g2, k1, k2⟩
  exact ho pins s2 σ Hs2 H2 xv yv v u x y d Q I2 g2.sub rv ru k1 k2 e (q.go g2)
def fB (f : FD) : FB := fun e => (f e).bind asB
theorem ptv_cmp {op : CmpOp} {k : D → D → Option D} (ho : OpD X (compareOp op) k) (ha : PV X a f) (hb : PV X b g) (h1 : behindInMarks op b = false := by first | exact nobehind _ (by decide) (by decide) | rfl) : PTV X (.Compare a [op] [b] pos) (fB (f2 k f g)) := by
  intro env σ fp Hs H d Q r e q
  obtain ⟨z, e, ez⟩ := bind2 (γ := Unit) e
  obtain ⟨x, e1, e⟩ := bind2 (γ := Unit) e
  obtain ⟨y, e2, e⟩ := bind2 (γ := Unit) e
  intro pins s I
  refine wpAny_isTrue_Compare1 (thn (ha env σ fp Hs H x _ r e1 (fun Hs1 H1 v g1 r1 => hb env σ fp Hs1 H1 y (fun u H2 => ∃ Hs2, Grow Hs H Hs2 H2 ∧ Rp X.K Hs2 v x ∧ Rp X.K Hs2 u y) (g1.rl r) e2 (fun Hs2 H2 u g2 r2 => ⟨Hs2, g1.trans g2, r1.sm g2.same, r2⟩)) pins s I) ?_) h1
  rintro v s1 ⟨xv, H1, I1, rv, q1⟩
  refine thn (q1 pins s1 I1) ?_
  rintro u s2 ⟨yv, H2, I2, ru, Hs2, g2, k1, k2⟩
  refine thn (ho pins s2 σ Hs2 H2 xv yv v u x y z (fun w H3 => ∃ Hs3, Grow Hs H Hs3 H3 ∧ Rp X.K Hs3 w z) I2 g2.sub rv ru k1 k2 e (fun Hs3 H3 w g3 r3 => ⟨Hs3, g2.trans g3, r3⟩)) ?_
  rintro c s3 ⟨w, H3, I3, r3, Hs3, g3, k3⟩
  cases z <;> simp only [asB] at ez <;> try contradiction
  injection ez with ez; subst ez
  cases k3
  cases r3
  exact wpAny_truthy_bool ⟨H3, I3, q Hs3 H3 g3⟩
theorem PV.t (ha : PV X a f) (he : ∀ wh, isTrue a X.env wh = (do let v ← wh; standAt a.pos; holding [v] (truthy v)) := by intro _; rfl) : PTV X a (fB f) := by
  intro env σ fp Hs H d Q r e q
  obtain ⟨z, e, ez⟩ := bind2 (γ := Unit) e
  refine wt_of (pt_val pe_we he) (ha env σ fp Hs H z _ r e fun Hs1 H1 v g1 r1 => ?_)
  cases z <;> simp only [asB] at ez <;> try contradiction
  injection ez with ez; subst ez
  cases r1
  exact ⟨_, rfl, q Hs1 H1 g1⟩
def truD : D → Option Bool
  | .none => some false
  | .bool b => some b
  | .int i => some (i != 0)
  | .str z => if z.length ≤ LN then some ((z.length : Int) != 0) else none
  | .list xs => some (!xs.isEmpty)
  | .tuple xs => some (!xs.isEmpty)
  | .dict xs => some (!xs.isEmpty)
def fT (f : FD) : FB := fun e => (f e).bind truD
theorem RpK.emp {K : PySem.W.Frag} {H : Hp} {vs : List (Key × V)} {ds : List (D × D)} (r : RpK K H vs ds) : vs.isEmpty = ds.isEmpty := by cases r <;> rfl
theorem RpL.emp {K : PySem.W.Frag} {H : Hp} {vs : List V} {ds : List D} (r : RpL K H vs ds) : vs.isEmpty = ds.isEmpty := by cases r <;> rfl
def rTruC (K : PySem.W.Frag) : V → Hp → (Bool → Hp → Prop) → Prop := fun x H Q => ∃ k, (TruV K x H k ∨ ∃ (a : Addr) (o : Obj) (kvs : List (Key × V)), x = .ref a ∧ H a = some (.frz o (.dK kvs)) ∧ k = !kvs.isEmpty) ∧ Q k H
theorem tru_C : TruR X (rTruC X.K) := by
  intro pins s σ H x v Q I rx h
  obtain ⟨k, h | ⟨a, o, kvs, rfl, h, rfl⟩, q⟩ := h
  · exact tru_ok pins s σ H x v Q I rx ⟨k, h, q⟩
  · cases rx
    obtain ⟨hz, hS, vs, r, m⟩ := dk_rd I.hok (.inr ⟨o, h⟩)
    have hlen : kvs.length = vs.length := Paired.length r
    have hl := line63
    have hs : sizeLine = 16777216 := sizeLine_eq
    exact wpAny_truthy_dict hS m (by omega) ⟨H, I.tok _, by rw [isEmpty_kv r]; exact q⟩
theorem PV.tru (ha : PV X a f) (he : ∀ wh, isTrue a X.env wh = (do let v ← wh; standAt a.pos; holding [v] (truthy v)) := by intro _; rfl) : PTV X a (fT f) := by
  intro env σ fp Hs H d Q r e q
  obtain ⟨z, e, ez⟩ := bind2 (γ := Unit) e
  refine wt_of ⟨fun pins s σ H Q I h => isTrue_plain (thn ((pe_we (X := X) (e := a)).run pins s σ H _ I h) fun v s1 ⟨x, H1, I1, r1, q1⟩ => tru_C pins s1 σ H1 x v Q I1 r1 q1) (he _)⟩ (ha env σ fp Hs H z _ r e fun Hs1 H1 v g1 r1 => ?_)
  refine ⟨d, ?_, q Hs1 H1 g1⟩
  cases r1 with
  | n => injection ez with ez; exact .inl ez.symm
  | b k => injection ez with ez; exact .inl ez.symm
  | i k => injection ez with ez; exact .inl ez.symm
  | s k =>
    simp only [truD] at ez
    split at ez <;> try contradiction
    rename_i hz
    injection ez with ez
    exact .inl ⟨by rw [ln_eq]; exact hz, ez.symm⟩
  | l h rr => injection ez with ez; exact .inl (.inl ⟨_, (same_rd g1.sub h), by rw [← ez, rr.emp]⟩)
  | t h rr => injection ez with ez; exact .inl (.inr (.inl ⟨_, same_seqT g1.sub h, by rw [← ez, rr.emp]⟩))
  | d h rr =>
    injection ez with ez
    rcases h with h | ⟨o, h⟩
    · exact .inl (.inr (.inr ⟨_, g1.sub _ _ h, by rw [← ez, rr.emp]⟩))
    · exact .inr ⟨_, o, _, rfl, g1.sub _ _ h, by rw [← ez, rr.emp]⟩
theorem PWV.p {fb : FB} (h : PWV X e fb) : PTV X e fb := fun env σ fp Hs H d Q r e q pins s I => h env σ fp Hs H d Q r e q _ pins s I
def bNot (a : FB) : FB := fun e => (a e).map (!·)
def bAnd (a b : FB) : FB := fun e => (a e).bind fun k => if k then b e else some false
def bOr (a b : FB) : FB := fun e => (a e).bind fun k => if k then some true else b e
variable {fa fb : FB} {rest : List Expr}
theorem ptv_not (ha : PTV X a fa) : PTV X (.UnaryOp .Not a pos) (bNot fa) := by
  intro env σ fp Hs H d Q r e q
  unfold bNot at e
  cases ea : fa env with
  | none => rw [ea] at e; cases e
  | some k => rw [ea] at e; injection e with e; subst e; exact wt_of (pt_not pt_wt) (ha env σ fp Hs H k _ r ea q)
theorem pwv_and1 (ha : PTV X a fa) : PWV X (.BoolOp .And [a] pos) fa := fun env σ fp Hs H d Q r e q => ww_of (pw_and1 pt_wt) (ha env σ fp Hs H d _ r e q)
theorem pwv_or1 (ha : PTV X a fa) : PWV X (.BoolOp .Or [a] pos) fa := fun env σ fp Hs H d Q r e q => ww_of (pw_or1 pt_wt) (ha env σ fp Hs H d _ r e q)
theorem pwv_and (ha : PTV X a fa) (hb : PWV X (.BoolOp .And (b :: rest) pos) fb) : PWV X (.BoolOp .And (a :: b :: rest) pos) (bAnd fa fb) := by
  intro env σ fp Hs H d Q r e q
  obtain ⟨k, e1, e⟩ := bind2 (γ := Unit) e
  refine ww_of (pw_and pt_wt pw_ww) (ha env σ fp Hs H k _ r e1 fun Hs1 H1 g1 => ?_)
  cases k with
  | true => exact iteT (hb env σ fp Hs1 H1 d Q (g1.rl r) (by simpa using e) fun Hs2 H2 g2 => q Hs2 H2 (g1.trans g2))
  | false => have e' : false = d := by simpa using e
             subst e'; exact iteF (q Hs1 H1 g1)
theorem pwv_or (ha : PTV X a fa) (hb : PWV X (.BoolOp .Or (b :: rest) pos) fb) : PWV X (.BoolOp .Or (a :: b :: rest) pos) (bOr fa fb) := by
  intro env σ fp Hs H d Q r e q
  obtain ⟨k, e1, e⟩ := bind2 (γ := Unit) e
  refine ww_of (pw_or pt_wt pw_ww) (ha env σ fp Hs H k _ r e1 fun Hs1 H1 g1 => ?_)
  cases k with
  | false => exact iteF (hb env σ fp Hs1 H1 d Q (g1.rl r) (by simpa using e) fun Hs2 H2 g2 => q Hs2 H2 (g1.trans g2))
  | true => have e' : true = d := by simpa using e
            subst e'; exact iteT (q Hs1 H1 g1)
theorem pv_one {op} (ha : PV X a f) : PV X (.BoolOp op [a] pos) f := fun env σ fp Hs H d Q r e q => we_of (pe_one pe_we) (ha env σ fp Hs H d Q r e q)
theorem pv_and (ha : PV X a f) (hb : PV X (.BoolOp .And (b :: rest) pos) g) : PV X (.BoolOp .And (a :: b :: rest) pos) (fAnd f g) := by
  intro env σ fp Hs H d Q r e q
  obtain ⟨k, e1, e⟩ := bind2 (γ := Unit) e
  obtain ⟨x, e0, e1⟩ := bind2 (γ := Unit) e1
  cases x <;> simp only [asB] at e1 <;> try contradiction
  injection e1 with e1; subst e1
  refine we_of (pe_and pe_we pe_we) (ha env σ fp Hs H _ _ r e0 fun Hs1 H1 v g1 r1 => ?_)
  cases r1
  rename_i k
  refine ⟨k, rfl, ?_⟩
  cases k with
  | true => exact iteT (hb env σ fp Hs1 H1 d Q (g1.rl r) (by simpa using e) (q.go g1))
  | false => have e' : PyData.bool false = d := by simpa using e
             subst e'; exact iteF ((q.go g1).at g1.sub (.b _))
theorem pv_not (ha : PV X a f) : PV X (.UnaryOp .Not a pos) (fNot f) := by
  intro env σ fp Hs H d Q r e q
  unfold fNot at e
  cases e0 : (f env).bind asB with
  | none => rw [e0] at e; cases e
  | some k =>
    rw [e0] at e; injection e with e; subst e
    obtain ⟨x, e2, e1⟩ := bind2 (γ := Unit) e0
    cases x <;> simp only [asB] at e1 <;> try contradiction
    injection e1 with e1; subst e1
    refine we_of (pe_not pe_we) (ha env σ fp Hs H _ _ r e2 fun Hs1 H1 v g1 r1 => ?_)
    cases r1
    exact ⟨_, rfl, (q.go g1).at g1.sub (.b _)⟩
theorem pv_if (hc : PTV X c fa) (ha : PV X a f) (hb : PV X b g) : PV X (.IfExp c a b pos) (fIf fa f g) := by
  intro env σ fp Hs H d Q r e q
  obtain ⟨k, e1, e⟩ := bind2 (γ := Unit) e
  refine we_of (pe_ifExp pt_wt pe_we pe_we) (hc env σ fp Hs H k _ r e1 fun Hs1 H1 g1 => ?_)
  cases k with
  | true => exact iteT (ha env σ fp Hs1 H1 d Q (g1.rl r) (by simpa using e) (q.go g1))
  | false => exact iteF (hb env σ fp Hs1 H1 d Q (g1.rl r) (by simpa using e) (q.go g1))
theorem pav_nil : PAV X [] fNil := fun env σ fp Hs H d Q r e q => by
  injection e with e; subst e
  exact wa_of pa_nil (q Hs H [] (Grow.refl r.sub) .nil)
theorem pav_cons (ha : PV X a f) (hr : PAV X es fl) (hs : starEach (a :: es) X.env = (false, eval a X.env) :: starEach es X.env := by rfl) : PAV X (a :: es) (fCons f fl) := by
  intro env σ fp Hs H d Q r e q
  obtain ⟨x, e1, e⟩ := bind2 (γ := Unit) e
  obtain ⟨xs, e2, e⟩ := bind2 (γ := Unit) e
  injection e with e; subst e
  exact wa_of (pa_cons pe_we pa_wa hs) (ha env σ fp Hs H x _ r e1 fun Hs1 H1 v g1 r1 => hr env σ fp Hs1 H1 xs _ (g1.rl r) e2 fun Hs2 H2 vs g2 r2 => q Hs2 H2 _ (g1.trans g2) (.cons (r1.sm g2.same) r2))
theorem pv_tup {k} (ha : PAV X es fl) : PV X (.Tuple es k pos) (fTup fl) := by
  intro env σ fp Hs H d Q r e q
  obtain ⟨xs, e1, e⟩ := bind2 (γ := Unit) e
  split at e <;> try contradiction
  rename_i hz
  injection e with e; subst e
  exact we_of (pe_tup pa_wa) (ha env σ fp Hs H xs _ r e1 fun Hs1 H1 vs g1 r1 => ⟨by rw [r1.len, ln_eq]; exact hz, fun p hp => (q.go g1).tup g1.sub r1 hp⟩)
theorem fv_lst (ha : PAV X es fl) : FV X (.List es pos) (fLst fl) := by
  intro env σ fp Hs H d Q r e q
  obtain ⟨xs, e1, e⟩ := bind2 (γ := Unit) e
  split at e <;> try contradiction
  rename_i hz
  injection e with e; subst e
  exact we_of (pe_lst pa_wa) (ha env σ fp Hs H _ _ r e1 fun Hs1 H1 vs g1 r1 => ⟨by rw [r1.len, ln_eq]; exact hz, fun p hp => (q.go g1).new g1.sub r1 hp⟩)
variable {x : Str} {p : Pos} {id T : String} {k : List D → Option D} {kl : List D → Option (List D)}
theorem pv_callB (hc : ClD X (.builtin id) k) (hg : Gl X x) (hm : X.mg x = none) (hv : bootBuiltins x = some (.builtin id)) (ha : PAV X (a :: es) fl) (hn : x ≠ "__name__" := by decide) (hdb : (x == ("__debug__" : Str)) = false := by decide)
    (he : starEach (a :: es) X.env = (false, eval a X.env) :: starEach es X.env := by rfl) (hpl : (backTo pos (starEach es X.env)).any (·.1) = false := by rfl) : PV X (.Call (.Name x p) (a :: es) [] pos) (fCall k fl) := by
  intro env σ fp Hs H d Q r e q
  obtain ⟨xs, e1, e⟩ := bind2 (γ := Unit) e
  intro pins s I
  refine wpAny_Call_Name_kw (ld_blt I hg hm hv ?_ hn hdb)
  refine PyProof.Rows.callWith_builtin1 (thn (ha env σ fp Hs H xs (fun vs H1 => ∃ Hs1, Grow Hs H Hs1 H1 ∧ RpL X.K Hs1 vs xs) r e1 (fun Hs1 H1 vs g1 r1 => ⟨Hs1, g1, r1⟩) pos pins s I) ?_) he hpl
  rintro us s1 ⟨vs, H1, I1, rv, Hs1, g1, r1⟩
  exact hc pins s1 σ Hs1 H1 vs us xs d Q I1 g1.sub rv r1 e (q.go g1)
theorem pv_isi {y : Str} {p2 : Pos} (hT : TyOk T) (hg : Gl X "isinstance") (hm : X.mg "isinstance" = none) (hg2 : Gl X y) (hm2 : X.mg y = none) (hv2 : bootBuiltins y = some (.type T)) (ha : PV X a f) (hn : y ≠ "__name__" := by decide) (hdb : (y == ("__debug__" : Str)) = false := by decide)
    (hs : starEach [a, .Name y p2] X.env = [(false, eval a X.env), (false, eval (.Name y p2) X.env)] := by rfl) (hs2 : starEach [.Name y p2] X.env = [(false, eval (.Name y p2) X.env)] := by rfl) :
    PV X (.Call (.Name "isinstance" p) [a, .Name y p2] [] pos) (fMapD (fun d => .bool (isT T d)) f) := by
  intro env σ fp Hs H d Q r e q
  unfold fMapD at e
  cases e1 : f env with
  | none => rw [e1] at e; cases e
  | some x =>
    rw [e1] at e; injection e with e; subst e
    refine we_of (pe_callB call_isi hg hm (by decide +kernel) (pa_cons pe_we (pa_cons (pe_bltn (v := .ty T) hg2 hm2 hv2 rfl hn hdb) pa_nil hs2) (by rw [hs, hs2])) (by decide) (by decide) (by rw [hs, hs2]) (by rw [hs2]; rfl)) ?_
    refine ha env σ fp Hs H x _ r e1 fun Hs1 H1 v g1 r1 => ?_
    exact ⟨v, .ty T, .type (tyN x), .type T, isT T x, rfl, .ty T, r1.ty g1.sub, kit_ty (kit_isT hT x), (q.go g1).at g1.sub (.b _)⟩
end
end TL
set_option Elab.async false
set_option linter.all false
set_option maxRecDepth 100000
namespace TL
open PySem PySem.Spec L2
open PyProof.Rows hiding St
def pt (fp : Fp) (i : Nat) (f : List Addr) : Fp := fun j => if j = i then f else fp j
theorem pt_same {fp : Fp} {i : Nat} {f : List Addr} : pt fp i f i = f := if_pos rfl
theorem pt_ne {fp : Fp} {i j : Nat} {f : List Addr} (h : j ≠ i) : pt fp i f j = fp j := if_neg h
section
variable {K : PySem.W.Frag} {Hs H : Hp} {e : Ev} {σ : L2.St} {fp : Fp}
theorem Rl.put (r : Rl K Hs H e σ fp) {i : Nat} {s : SV} {o : Option V} {f : List Addr} (hi : i < e.length) (hs : SRep K Hs H s o f) (nd : f.Nodup) (ap : ∀ j a, j ≠ i → a ∈ f → a ∉ fp j) (fr : ∀ a ∈ f, Hs a = none) : Rl K Hs H (e.set i s) (σ.set i o) (pt fp i f) where
  len := by simp [r.len]
  pl := fun j t h => by
    by_cases q : j = i
    · subst q
      rw [List.getElem?_set_self hi] at h
      cases h
      exact ⟨o, by rw [List.getElem?_set_self (by rw [r.len]; exact hi)], by rw [pt_same]; exact hs⟩
    · rw [List.getElem?_set_ne (Ne.symm q)] at h
      obtain ⟨o', h1, h2⟩ := r.pl j t h
      exact ⟨o', by rw [List.getElem?_set_ne (Ne.symm q)]; exact h1, by rw [pt_ne q]; exact h2⟩
  out := fun j h => by
    have h' : e.length ≤ j := by simpa using h
    rw [pt_ne (by omega)]; exact r.out j h'
  nd := fun j => by
    by_cases q : j = i
    · subst q; rw [pt_same]; exact nd
    · rw [pt_ne q]; exact r.nd j
  ap := fun j k a h1 h2 => by
    by_cases q : j = i
    · by_cases q' : k = i
      · rw [q, q']
      · rw [q, pt_same] at h1
        rw [pt_ne q'] at h2
        exact (ap k a q' h1 h2).elim
    · by_cases q' : k = i
      · rw [q', pt_same] at h2
        rw [pt_ne q] at h1
        exact (ap j a q h2 h1).elim
      · rw [pt_ne q] at h1
        rw [pt_ne q'] at h2
        exact r.ap j k a h1 h2
  fr := fun j a h => by
    by_cases q : j = i
    · rw [q, pt_same] at h; exact fr a h
    · rw [pt_ne q] at h; exact r.fr j a h
  sub := r.sub
theorem Rl.putSh (r : Rl K Hs H e σ fp) {i : Nat} {v : V} {d : D} (hi : i < e.length) (h : Rp K Hs v d) : Rl K Hs H (e.set i (.sh d)) (σ.set i (some v)) (pt fp i []) :=
  r.put hi ⟨rfl, v, rfl, h⟩ List.nodup_nil (fun _ _ _ h => (List.not_mem_nil h).elim) (fun _ h => (List.not_mem_nil h).elim)
theorem Rl.putUn (r : Rl K Hs H e σ fp) {i : Nat} {o : Option V} (hi : i < e.length) : Rl K Hs H (e.set i .un) (σ.set i o) (pt fp i []) :=
  r.put hi rfl List.nodup_nil (fun _ _ _ h => (List.not_mem_nil h).elim) (fun _ h => (List.not_mem_nil h).elim)
theorem Rl.free (r : Rl K Hs H e σ fp) {p : Addr} (n : H p = none) : ∀ j, p ∉ fp j := fun j m => by
  obtain ⟨u, h⟩ := r.trk m
  rw [n] at h; cases h
theorem Rl.putOw (r : Rl K Hs H e σ fp) {i : Nat} {p : Addr} {vs : List V} {xs : List D} (hi : i < e.length) (n : ∀ j, p ∉ fp j) (n' : Hs p = none) (h : H p = some (.lst vs)) (k : RpL K Hs vs xs) :
    Rl K Hs H (e.set i (.ow xs)) (σ.set i (some (.ref p))) (pt fp i [p]) :=
  r.put hi ⟨p, vs, rfl, rfl, h, k⟩ (by simp) (fun j a _ m => by have : a = p := by simpa using m
                                                                subst this; exact n j) (fun a m => by have : a = p := by simpa using m
                                                                                                      subst this; exact n')
theorem Adv.pt0 {i : Nat} : Adv fp Hs H (pt fp i []) Hs H := ⟨Same.refl _, fun _ _ h _ => h, fun _ h => h, fun j a m => by
  by_cases q : j = i
  · rw [q, pt_same] at m; exact (List.not_mem_nil m).elim
  · rw [pt_ne q] at m; exact .inl ⟨j, m⟩, fun a o h => .inl ⟨o, h⟩⟩
end
inductive Fl where
  | nx (e : Ev)
  | rt (d : D) (e : Ev)
  | rf (d : List D) (e : Ev)
  | ro (d : List (List D)) (e : Ev)
  | bk (e : Ev)
  | ct (e : Ev)
def Kp (kp : List Nat) (σ : L2.St) (fp : Fp) (σ' : L2.St) (fp' : Fp) : Prop := ∀ i ∈ kp, σ'[i]? = σ[i]? ∧ fp' i = fp i
theorem Kp.refl {kp : List Nat} {σ : L2.St} {fp : Fp} : Kp kp σ fp σ fp := fun _ _ => ⟨rfl, rfl⟩
theorem Kp.trans {kp : List Nat} {σ σ1 σ2 : L2.St} {fp fp1 fp2 : Fp} (a : Kp kp σ fp σ1 fp1) (b : Kp kp σ1 fp1 σ2 fp2) : Kp kp σ fp σ2 fp2 := fun i h => ⟨(b i h).1.trans (a i h).1, (b i h).2.trans (a i h).2⟩
theorem Kp.set {kp : List Nat} {σ : L2.St} {fp : Fp} {i : Nat} {o : Option V} {f : List Addr} (h : kp.contains i = false) : Kp kp σ fp (σ.set i o) (pt fp i f) := fun j m => by
  have ne : j ≠ i := fun q => by
    subst q
    rw [List.contains_iff_mem.mpr m] at h; cases h
  exact ⟨List.getElem?_set_ne (Ne.symm ne), pt_ne ne⟩

def OwnL (K : PySem.W.Frag) (Hs H : Hp) (xss : List (List D)) (p : Addr) (as : List Addr) : Prop := SRep K Hs H (.oo xss) (some (.ref p)) (p :: as) ∧ (p :: as).Nodup ∧ ∀ b ∈ p :: as, Hs b = none
def FlK (K : PySem.W.Frag) (kp : List Nat) (D' : Ends) (σ : L2.St) (fp : Fp) (Hs H : Hp) : Fl → Prop
  | .nx e => ∀ σ' fp' Hs' H', Rl K Hs' H' e σ' fp' → Adv fp Hs H fp' Hs' H' → Kp kp σ fp σ' fp' → D'.nx σ' H'
  | .bk e => ∀ σ' fp' Hs' H', Rl K Hs' H' e σ' fp' → Adv fp Hs H fp' Hs' H' → Kp kp σ fp σ' fp' → D'.bk σ' H'
  | .ct e => ∀ σ' fp' Hs' H', Rl K Hs' H' e σ' fp' → Adv fp Hs H fp' Hs' H' → Kp kp σ fp σ' fp' → D'.ct σ' H'
  | .rt d e => ∀ v σ' fp' Hs' H', Rl K Hs' H' e σ' fp' → Adv fp Hs H fp' Hs' H' → Kp kp σ fp σ' fp' → Rp K Hs' v d → D'.rt v H'
  | .rf xs e => ∀ p vs σ' fp' Hs' H', Rl K Hs' H' e σ' fp' → Adv fp Hs H fp' Hs' H' → Kp kp σ fp σ' fp' → H' p = some (.lst vs) → RpL K Hs' vs xs → Hs' p = none → (∀ j ∈ kp, p ∉ fp j) → ((∃ j, p ∈ fp j) ∨ H p = none) → D'.rt (.ref p) H'
  | .ro xss e => ∀ p as σ' fp' Hs' H', Rl K Hs' H' e σ' fp' → Adv fp Hs H fp' Hs' H' → Kp kp σ fp σ' fp' → OwnL K Hs' H' xss p as → (∀ j ∈ kp, ∀ b ∈ p :: as, b ∉ fp j) → (∀ b ∈ p :: as, (∃ j, b ∈ fp j) ∨ H b = none) → D'.rt (.ref p) H'
theorem FlK.go {K : PySem.W.Frag} {kp : List Nat} {D' : Ends} {σ σ1 : L2.St} {fp fp1 : Fp} {Hs H Hs1 H1 : Hp} (r : Fl) (h : FlK K kp D' σ fp Hs H r) (a : Adv fp Hs H fp1 Hs1 H1) (k : Kp kp σ fp σ1 fp1) : FlK K kp D' σ1 fp1 Hs1 H1 r := by
  cases r with
  | nx e => exact fun σ' fp' Hs' H' r' a' k' => h σ' fp' Hs' H' r' (a.trans a') (k.trans k')
  | bk e => exact fun σ' fp' Hs' H' r' a' k' => h σ' fp' Hs' H' r' (a.trans a') (k.trans k')
  | ct e => exact fun σ' fp' Hs' H' r' a' k' => h σ' fp' Hs' H' r' (a.trans a') (k.trans k')
  | rt d e => exact fun v σ' fp' Hs' H' r' a' k' rp => h v σ' fp' Hs' H' r' (a.trans a') (k.trans k') rp
  | ro d e =>
    intro p as σ' fp' Hs' H' r' a' k' q1 q4 q5
    refine h p as σ' fp' Hs' H' r' (a.trans a') (k.trans k') q1 (fun j hj b hb => by rw [← (k j hj).2]; exact q4 j hj b hb) fun b hb => ?_
    rcases q5 b hb with ⟨j, m⟩ | n
    · exact a.own j b m
    · exact .inr (a.trk b n)
  | rf d e =>
    intro p vs σ' fp' Hs' H' r' a' k' q1 q2 q3 q4 q5
    refine h p vs σ' fp' Hs' H' r' (a.trans a') (k.trans k') q1 q2 q3 (fun j hj => by rw [← (k j hj).2]; exact q4 j hj) ?_
    rcases q5 with ⟨j, m⟩ | n
    · exact a.own j p m
    · exact .inr (a.trk p n)
def SJ (X : Cx) (kp : List Nat) (st : Stmt) (G : Ev → Option Fl) : Prop := ∀ (env : Ev) (σ : L2.St) (fp : Fp) (Hs H : Hp) (r : Fl) (D' : Ends), Rl X.K Hs H env σ fp → G env = some r → FlK X.K kp D' σ fp Hs H r → WS X st D' σ H
def BJ (X : Cx) (kp : List Nat) (bd : List Stmt) (G : Ev → Option Fl) : Prop := ∀ (env : Ev) (σ : L2.St) (fp : Fp) (Hs H : Hp) (r : Fl) (D' : Ends), Rl X.K Hs H env σ fp → G env = some r → FlK X.K kp D' σ fp Hs H r → WB X bd D' σ H

abbrev GF := Ev → Option Fl
def gNx : GF := fun e => some (.nx e)
def gSeq (g h : GF) : GF := fun e => (g e).bind fun r => match r with
  | .nx e' => h e'
  | .rt d e' => some (.rt d e')
  | .rf d e' => some (.rf d e')
  | .ro d e' => some (.ro d e')
  | .bk e' => some (.bk e')
  | .ct e' => some (.ct e')
def gIf (c : FB) (g h : GF) : GF := fun e => (c e).bind fun k => if k then g e else h e
def gSet (i : Nat) (f : FD) : GF := fun e => (f e).bind fun d => if i < e.length then some (.nx (e.set i (.sh d))) else none
def gOwn (i : Nat) (f : FL) : GF := fun e => (f e).bind fun d => if i < e.length then some (.nx (e.set i (.ow d))) else none
def gRet (f : FD) : GF := fun e => (f e).map fun d => .rt d e
def gRetF (f : FL) : GF := fun e => (f e).map fun d => .rf d e
def gRetO (i : Nat) : GF := fun e => match e[i]? with | some (.ow xs) => some (.rf xs e) | _ => none
def gNo : GF := fun _ => none
def gBk : GF := fun e => some (.bk e)
def gCt : GF := fun e => some (.ct e)
def frzE (i : Nat) (e : Ev) : Option Ev := match e[i]? with | some (.ow xs) => some (e.set i (.sh (.list xs))) | _ => none
def gFrz (i : Nat) (g : GF) : GF := fun e => (frzE i e).bind g
def gApp (i : Nat) (f : FD) : GF := fun e => (f e).bind fun d => match e[i]? with | some (.ow xs) => if xs.length < LN then some (.nx (e.set i (.ow (xs ++ [d])))) else none | _ => none

section
variable {X : Cx} {kp : List Nat} {st : Stmt} {bd bd2 rest : List Stmt} {a b c e : Expr} {pos : Pos} {g h : GF} {f : FD} {fl : FL} {fb : FB}
theorem bj_nil : BJ X kp [] gNx := fun env σ fp Hs H r D' rl e q => by
  injection e with e; subst e
  exact wb_of pss_nil (q σ fp Hs H rl Adv.refl Kp.refl)
theorem bj_cons (h1 : SJ X kp st g) (h2 : BJ X kp rest h) : BJ X kp (st :: rest) (gSeq g h) := by
  intro env σ fp Hs H r D' rl e q
  obtain ⟨z, e1, e⟩ := bind2 (γ := Unit) e
  refine wb_of (pss_cons ps_ws pss_wb) (h1 env σ fp Hs H z _ rl e1 ?_)
  cases z with
  | nx e' => exact fun σ' fp' Hs' H' r' a' k' => h2 e' σ' fp' Hs' H' r D' r' e (FlK.go r q a' k')
  | rt d e' => injection e with e; subst e; exact q
  | rf d e' => injection e with e; subst e; exact q
  | ro d e' => injection e with e; subst e; exact q
  | bk e' => injection e with e; subst e; exact q
  | ct e' => injection e with e; subst e; exact q
theorem bj_one (h1 : SJ X kp st g) : BJ X kp [st] g := fun env σ fp Hs H r D' rl e q => wb_of (pss_one ps_ws) (h1 env σ fp Hs H r D' rl e q)
theorem sj_never : SJ X kp st gNo := fun env σ fp Hs H r D' rl e q => by cases e
theorem sj_if (hc : PTV X c fb) (h1 : BJ X kp bd g) (h2 : BJ X kp bd2 h) : SJ X kp (.If c bd bd2 pos) (gIf fb g h) := by
  intro env σ fp Hs H r D' rl e q
  obtain ⟨k, e1, e⟩ := bind2 (γ := Unit) e
  refine ws_of (ps_if pt_wt pss_wb pss_wb) (hc env σ fp Hs H k _ rl e1 fun Hs1 H1 g1 => ?_)
  cases k with
  | true => exact iteT (h1 env σ fp Hs1 H1 r D' (g1.rl rl) (by simpa using e) (FlK.go r q g1.adv Kp.refl))
  | false => exact iteF (h2 env σ fp Hs1 H1 r D' (g1.rl rl) (by simpa using e) (FlK.go r q g1.adv Kp.refl))
theorem sj_ret (ha : PV X a f) : SJ X kp (.Return (some a) pos) (gRet f) := by
  intro env σ fp Hs H r D' rl e q
  unfold gRet at e
  cases e1 : f env with
  | none => rw [e1] at e; cases e
  | some d =>
    rw [e1] at e; injection e with e; subst e
    exact ws_of (ps_ret pe_we) (ha env σ fp Hs H d _ rl e1 fun Hs1 H1 v g1 r1 => q v σ fp Hs1 H1 (g1.rl rl) g1.adv Kp.refl r1)
theorem sj_retF (ha : FV X a fl) : SJ X kp (.Return (some a) pos) (gRetF fl) := by
  intro env σ fp Hs H r D' rl e q
  unfold gRetF at e
  cases e1 : fl env with
  | none => rw [e1] at e; cases e
  | some d =>
    rw [e1] at e; injection e with e; subst e
    exact ws_of (ps_ret pe_we) (ha env σ fp Hs H d _ rl e1 fun Hs1 H1 p vs g1 n n' e1 r1 => q p vs σ fp Hs1 H1 (g1.rl rl) g1.adv Kp.refl e1 r1 n' (fun j _ => rl.free n j) (.inr n))
theorem sj_retO (i : Nat) {x : Str} {p : Pos} (hk : kp.contains i = false) (hN : X.N[i]? = some x := by rfl) (hv : Vis X.env.scope x := by first | exact Or.inl rfl | exact Or.inr (Or.inl rfl) | exact Or.inr (Or.inr rfl)) (hd : (x == ("__debug__" : Str)) = false := by decide)
    (hcd : (x == ("__classdict__" : Str)) = false := by decide) : SJ X kp (.Return (some (.Name x p)) pos) (gRetO i) := by
  intro env σ fp Hs H r D' rl e q
  unfold gRetO at e
  cases es : env[i]? with
  | none => rw [es] at e; cases e
  | some s =>
    rw [es] at e
    cases s <;> simp only at e <;> try contradiction
    injection e with e; subst e
    obtain ⟨o, e1, a, vs, rfl, e3, e4, e5⟩ := rl.pl i _ es
    have mi : a ∈ fp i := by rw [e3]; simp
    refine ws_of (ps_ret (pe_var hN hv hd hcd)) ⟨.ref a, e1, q a vs σ fp Hs H rl Adv.refl Kp.refl e4 e5 (rl.fr i a mi) (fun j hj m => ?_) (.inl ⟨i, mi⟩)⟩
    have := rl.ap i j a mi m
    subst this
    rw [List.contains_iff_mem.mpr hj] at hk; cases hk
theorem sj_set (i : Nat) {x : Str} {p : Pos} (hk : kp.contains i = false) (nd : X.N.Nodup) (hi : X.N[i]? = some x) (hx : Loc X.env.scope x) (ha : PV X a f) (hs : swapsWith a (some (.Name x p)) pos.line X.env = pure false := by rfl) (hf : X.fn x = true ∨ X.env.scope.names.lookup x = some .local := by first | exact .inl rfl | exact .inr rfl | assumption) :
    SJ X kp (.Assign [.Name x p] a pos) (gSet i f) := by
  intro env σ fp Hs H r D' rl e q
  obtain ⟨d, e1, e⟩ := bind2 (γ := Unit) e
  split at e <;> try contradiction
  rename_i hl
  injection e with e; subst e
  exact ws_of (ps_set nd hi hx pe_we hs hf) (ha env σ fp Hs H d _ rl e1 fun Hs1 H1 v g1 r1 => q _ _ Hs1 H1 ((g1.rl rl).putSh hl r1) (g1.adv.trans Adv.pt0) (Kp.set hk))
theorem adv_ow {fp : Fp} {Hs H Hs1 H1 : Hp} {i : Nat} {p : Addr} (a : Adv fp Hs H fp Hs1 H1) (n : H p = none) : Adv fp Hs H (pt fp i [p]) Hs1 H1 := ⟨a.same, a.keep, a.trk, fun j b m => by
  by_cases q : j = i
  · rw [q, pt_same] at m
    have : b = p := by simpa using m
    subst this; exact .inr n
  · rw [pt_ne q] at m; exact a.own j b m, a.fre⟩
theorem sj_own (i : Nat) {x : Str} {p : Pos} (hk : kp.contains i = false) (nd : X.N.Nodup) (hi : X.N[i]? = some x) (hx : Loc X.env.scope x) (ha : FV X a fl) (hs : swapsWith a (some (.Name x p)) pos.line X.env = pure false := by rfl) (hf : X.fn x = true ∨ X.env.scope.names.lookup x = some .local := by first | exact .inl rfl | exact .inr rfl | assumption) :
    SJ X kp (.Assign [.Name x p] a pos) (gOwn i fl) := by
  intro env σ fp Hs H r D' rl e q
  obtain ⟨d, e1, e⟩ := bind2 (γ := Unit) e
  split at e <;> try contradiction
  rename_i hl
  injection e with e; subst e
  refine ws_of (ps_set nd hi hx pe_we hs hf) (ha env σ fp Hs H d _ rl e1 fun Hs1 H1 p vs g1 n n' h1 r1 => ?_)
  exact q _ _ Hs1 H1 ((g1.rl rl).putOw hl (rl.free n) n' h1 r1) (adv_ow g1.adv n) (Kp.set hk)
theorem rl_frz {K : PySem.W.Frag} {env : Ev} {σ : L2.St} {fp : Fp} {Hs H : Hp} {i : Nat} {xs : List D} (rl : Rl K Hs H env σ fp) (es : env[i]? = some (.ow xs)) :
    ∃ a vs, σ[i]? = some (some (.ref a)) ∧ fp i = [a] ∧ H a = some (.lst vs) ∧ RpL K Hs vs xs ∧ Rl K (upd Hs a (.lst vs)) H (env.set i (.sh (.list xs))) σ (pt fp i []) ∧ Adv fp Hs H (pt fp i []) (upd Hs a (.lst vs)) H := by
  obtain ⟨o, e1, a, vs, rfl, e3, e4, e5⟩ := rl.pl i _ es
  have mi : a ∈ fp i := by rw [e3]; simp
  have hn : Hs a = none := rl.fr i a mi
  have hi : i < env.length := (List.getElem?_eq_some_iff.mp es).1
  have sm : Same Hs (upd Hs a (.lst vs)) := same_new hn
  have sb : Same (upd Hs a (.lst vs)) H := fun b u h => by
    by_cases z : b = a
    · subst z; rw [upd_same] at h; cases h; exact e4
    · rw [upd_ne z] at h; exact rl.sub b u h
  have r1 : Rl K Hs H (env.set i .un) (σ.set i (some (.ref a))) (pt fp i []) := rl.putUn hi
  have se : σ.set i (some (.ref a)) = σ := by
    apply List.ext_getElem?
    intro j
    by_cases q : j = i
    · subst q; rw [List.getElem?_set_self (by rw [rl.len]; exact hi)]; exact e1.symm
    · rw [List.getElem?_set_ne (Ne.symm q)]
  rw [se] at r1
  have r2 : Rl K (upd Hs a (.lst vs)) H (env.set i .un) σ (pt fp i []) :=
    ⟨r1.len, fun j s h => let ⟨o, q1, q2⟩ := r1.pl j s h; ⟨o, q1, q2.keep sm fun _ _ _ h => h⟩, r1.out, r1.nd, r1.ap, fun j b m => by
      have z : b ≠ a := fun z => by
        subst z
        by_cases q : j = i
        · subst q; rw [pt_same] at m; exact List.not_mem_nil m
        · rw [pt_ne q] at m; exact q (rl.ap j i b m mi)
      rw [upd_ne z]; exact r1.fr j b m, sb⟩
  have r3 := r2.putSh (i := i) (v := .ref a) (d := .list xs) (by simpa using hi) (.l (.inl (.inl upd_same)) (e5.sm sm))
  rw [List.set_set, se] at r3
  have ep : pt (pt fp i []) i [] = pt fp i [] := by
    funext j
    by_cases q : j = i
    · subst q; rw [pt_same, pt_same]
    · rw [pt_ne q]
  rw [ep] at r3
  refine ⟨a, vs, e1, e3, e4, e5, r3, sm, fun _ _ h _ => h, fun _ h => h, Adv.pt0 (Hs := Hs) (H := H) |>.own, fun b o h => ?_⟩
  by_cases z : b = a
  · subst z; exact .inr (.inr ⟨i, mi⟩)
  · rw [upd_ne z] at h; exact .inl ⟨o, h⟩
theorem kp_frz {kp : List Nat} {σ : L2.St} {fp : Fp} {i : Nat} {f : List Addr} (h : kp.contains i = false) : Kp kp σ fp σ (pt fp i f) := fun j m => by
  have ne : j ≠ i := fun q => by subst q; rw [List.contains_iff_mem.mpr m] at h; cases h
  exact ⟨rfl, pt_ne ne⟩
end
def fFrz (i : Nat) (f : FD) : FD := fun e => (frzE i e).bind fun e' => (f e').bind fun d => if flatD d = true then some d else none
def bFrz (i : Nat) (f : FB) : FB := fun e => (frzE i e).bind f
section
variable {X : Cx} {a : Expr} {f : FD} {fb : FB}
theorem Rp.flat {K : PySem.W.Frag} {H H' : Hp} {v : V} {d : D} (r : Rp K H v d) (h : flatD d = true) : Rp K H' v d := by
  cases r <;> first | exact .n | exact .b _ | exact .i _ | exact .s _ | (simp [flatD] at h)
theorem pv_frz (i : Nat) (ha : PV X a f) : PV X a (fFrz i f) := by
  intro env σ fp Hs H d Q rl e q
  obtain ⟨env1, e1, e⟩ := bind2 (γ := Unit) e
  obtain ⟨d1, e2, e⟩ := bind2 (γ := Unit) e
  split at e <;> try contradiction
  rename_i hf
  injection e with e; subst e
  unfold frzE at e1
  cases es : env[i]? with
  | none => rw [es] at e1; cases e1
  | some s =>
    rw [es] at e1
    cases s <;> simp only at e1 <;> try contradiction
    injection e1 with e1; subst e1
    obtain ⟨a, vs, _, _, _, _, r1, a1⟩ := rl_frz rl es
    exact ha _ σ _ _ H d1 Q r1 e2 fun Hs1 H1 v g1 r1 => q Hs H1 v ⟨Same.refl _, g1.keep, rl.sub.trans g1.keep, fun b o h => .inl ⟨o, h⟩⟩ (r1.flat hf)
theorem ptv_frz (i : Nat) (ha : PTV X a fb) : PTV X a (bFrz i fb) := by
  intro env σ fp Hs H d Q rl e q
  obtain ⟨env1, e1, e⟩ := bind2 (γ := Unit) e
  unfold frzE at e1
  cases es : env[i]? with
  | none => rw [es] at e1; cases e1
  | some s =>
    rw [es] at e1
    cases s <;> simp only at e1 <;> try contradiction
    injection e1 with e1; subst e1
    obtain ⟨a, vs, _, _, _, _, r1, a1⟩ := rl_frz rl es
    exact ha _ σ _ _ H d Q r1 e fun Hs1 H1 g1 => q Hs H1 ⟨Same.refl _, g1.keep, rl.sub.trans g1.keep, fun b o h => .inl ⟨o, h⟩⟩
end
end TL
set_option Elab.async false
set_option linter.all false
set_option maxRecDepth 100000
namespace TL
open PySem PySem.Spec L2
open PyProof.Rows hiding St
abbrev AF := D → Ev → Option Ev
def TJ (X : Cx) (tg : Expr) (sl : List Nat) (A : AF) : Prop := ∃ g, PG X tg g ∧ ∀ (env : Ev) (σ : L2.St) (fp : Fp) (Hs H : Hp) (d : D) (v : V) (env' : Ev) (Q : L2.St → Hp → Prop), Rl X.K Hs H env σ fp → Rp X.K Hs v d → A d env = some env' →
  (∀ σ' fp', Rl X.K Hs H env' σ' fp' → Adv fp Hs H fp' Hs H → (σ'.length = σ.length ∧ ∀ j, j ∉ sl → σ'[j]? = σ[j]? ∧ fp' j = fp j) → Q σ' H) → g v σ H Q
def TJs (X : Cx) (tgs : List Expr) (sl : List Nat) (A : List D → Ev → Option Ev) : Prop := ∃ g, PGs X tgs g ∧ ∀ (env : Ev) (σ : L2.St) (fp : Fp) (Hs H : Hp) (ds : List D) (vs : List V) (env' : Ev) (Q : L2.St → Hp → Prop), Rl X.K Hs H env σ fp → RpL X.K Hs vs ds → A ds env = some env' →
  (∀ σ' fp', Rl X.K Hs H env' σ' fp' → Adv fp Hs H fp' Hs H → (σ'.length = σ.length ∧ ∀ j, j ∉ sl → σ'[j]? = σ[j]? ∧ fp' j = fp j) → Q σ' H) → g vs σ H Q
def aNm (i : Nat) : AF := fun d e => if i < e.length then some (e.set i (.sh d)) else none
def aNil : List D → Ev → Option Ev
  | [], e => some e
  | _, _ => none
def aCons (A : AF) (B : List D → Ev → Option Ev) : List D → Ev → Option Ev
  | d :: ds, e => (A d e).bind (B ds)
  | [], _ => none
def aTup (n : Nat) (B : List D → Ev → Option Ev) : AF := fun d e => match d with
  | .tuple ds => if ds.length = n then B ds e else none
  | .list ds => if ds.length = n then B ds e else none
  | _ => none
theorem pg_or {X : Cx} {tg : Expr} {g1 g2 : TG} (h1 : PG X tg g1) (h2 : PG X tg g2) : PG X tg (fun v σ H Q => g1 v σ H Q ∨ g2 v σ H Q) :=
  ⟨fun pins s σ H v u Q I r h => h.elim (h1.run pins s σ H v u Q I r) (h2.run pins s σ H v u Q I r)⟩
section
variable {X : Cx} {tg : Expr} {tgs : List Expr} {pos : Pos} {sl sl2 : List Nat} {A : AF} {B : List D → Ev → Option Ev}
theorem tj_name (i : Nat) {x : Str} (nd : X.N.Nodup) (hi : X.N[i]? = some x) (hx : Loc X.env.scope x) (hf : X.fn x = true ∨ X.env.scope.names.lookup x = some .local := by first | exact .inl rfl | exact .inr rfl | assumption) : TJ X (.Name x pos) [i] (aNm i) := by
  refine ⟨_, pg_name nd hi hx hf, fun env σ fp Hs H d v env' Q rl r e q => ?_⟩
  unfold aNm at e
  split at e <;> try contradiction
  rename_i hl
  injection e with e; subst e
  exact q _ _ (rl.putSh hl r) Adv.pt0 ⟨by simp, fun j hj => ⟨List.getElem?_set_ne (by intro z; exact hj (by simp [z])), pt_ne (by intro z; exact hj (by simp [z]))⟩⟩
theorem tjs_nil : TJs X [] [] aNil := by
  refine ⟨_, pgs_nil, fun env σ fp Hs H ds vs env' Q rl r e q => ?_⟩
  cases ds with
  | nil => injection e with e; subst e; cases r; exact ⟨rfl, q σ fp rl Adv.refl ⟨rfl, fun _ _ => ⟨rfl, rfl⟩⟩⟩
  | cons _ _ => cases e
theorem tjs_cons (h1 : TJ X tg sl A) (h2 : TJs X tgs sl2 B) (hs : (assignEach (tg :: tgs) X.env).map (·.2) = assign tg X.env :: (assignEach tgs X.env).map (·.2) := by rfl) : TJs X (tg :: tgs) (sl ++ sl2) (aCons A B) := by
  obtain ⟨g1, p1, k1⟩ := h1
  obtain ⟨g2, p2, k2⟩ := h2
  refine ⟨_, pgs_cons p1 p2 hs, fun env σ fp Hs H ds vs env' Q rl r e q => ?_⟩
  cases ds with
  | nil => cases e
  | cons d ds =>
    cases r with
    | cons h r =>
      obtain ⟨env1, e1, e⟩ := bind2 (γ := Unit) e
      refine ⟨_, _, rfl, k1 env σ fp Hs H d _ env1 _ rl h e1 fun σ1 fp1 r1 a1 o1 => ?_⟩
      refine k2 env1 σ1 fp1 Hs H ds _ env' Q r1 r e fun σ2 fp2 r2 a2 o2 => q σ2 fp2 r2 (a1.trans a2) ⟨o2.1.trans o1.1, fun j hj => ?_⟩
      have m1 : j ∉ sl := fun z => hj (List.mem_append_left _ z)
      have m2 : j ∉ sl2 := fun z => hj (List.mem_append_right _ z)
      exact ⟨(o2.2 j m2).1.trans (o1.2 j m1).1, (o2.2 j m2).2.trans (o1.2 j m1).2⟩
theorem tj_tup {n k : Nat} (hc : X.calm = true) (h : TJs X tgs sl B) (hn : (assignEach tgs X.env).length = n := by rfl) (hst : (assignEach tgs X.env).findIdx? (·.1) = none := by rfl) : TJ X (.Tuple tgs k pos) sl (aTup n B) := by
  obtain ⟨g1, p1, k1⟩ := h
  refine ⟨_, pg_or (pg_tup hc p1 hn hst) (pg_lst hc p1 hn hst), fun env σ fp Hs H d v env' Q rl r e q => ?_⟩
  cases r with
  | t h r =>
    simp only [aTup] at e
    split at e <;> try contradiction
    rename_i hz
    exact .inl ⟨_, _, rfl, same_seqT rl.sub h, by rw [r.len]; exact hz, k1 env σ fp Hs H _ _ env' Q rl r e q⟩
  | l h r =>
    simp only [aTup] at e
    split at e <;> try contradiction
    rename_i hz
    exact .inr ⟨_, _, rfl, same_rd rl.sub h, by rw [r.len]; exact hz, k1 env σ fp Hs H _ _ env' Q rl r e q⟩
  | _ => cases e
def gAsg (A : AF) (f : FD) : GF := fun e => (f e).bind fun d => (A d e).map Fl.nx
theorem sj_asg {kp : List Nat} {a : Expr} {f : FD} (hk : sl.all (fun i => !kp.contains i) = true) (ha : PV X a f) (ht : TJ X tg sl A) (hs : swapsWithSole [tg] a pos.line X.env = pure false := by rfl) (hw : swappedStores [tg] a X.env = pure none := by rfl)
    (h1 : (assignEach [tg] X.env).map (·.2) = [assign tg X.env] := by rfl) : SJ X kp (.Assign [tg] a pos) (gAsg A f) := by
  obtain ⟨g1, p1, k1⟩ := ht
  intro env σ fp Hs H r D' rl e q
  obtain ⟨d, e1, e⟩ := bind2 (γ := Unit) e
  cases e2 : A d env with
  | none => rw [e2] at e; cases e
  | some env' =>
    rw [e2] at e; injection e with e; subst e
    refine ws_of (ps_asg pe_we p1 hs hw h1) (ha env σ fp Hs H d _ rl e1 fun Hs1 H1 v g r1 => ?_)
    refine k1 env σ fp Hs1 H1 d v env' _ (g.rl rl) r1 e2 fun σ2 fp2 r2 a2 o2 => q σ2 fp2 Hs1 H1 r2 (g.adv.trans a2) fun j hj => ?_
    have m : j ∉ sl := fun z => by
      have := List.all_eq_true.mp hk j z
      rw [List.contains_iff_mem.mpr hj] at this; cases this
    exact o2.2 j m
end
structure ItJ (K : PySem.W.Frag) (Hs : Hp) (J : It) (items : List D) : Prop where
  stop : ∀ H, Same Hs H → J.stop items.length H
  go : ∀ i H, Same Hs H → i < items.length → J.go i H
  yld : ∀ i H x H' Hs1, Same Hs Hs1 → Same Hs1 H → J.yld i H x H' → ∀ d, items[i]? = some d → ∃ Hs2, Grow Hs1 H Hs2 H' ∧ Rp K Hs2 x d
def IJ (X : Cx) (tg iter : Expr) (f : FL) : Prop := ∃ wi, PI X tg iter wi ∧ ∀ (env : Ev) (σ : L2.St) (fp : Fp) (Hs H : Hp) (ds : List D) (R : It → Hp → Prop), Rl X.K Hs H env σ fp → f env = some ds →
  (∀ Hs' H' J, Grow Hs H Hs' H' → ItJ X.K Hs' J ds → R J H') → wi σ H R
def iSeq (f : FD) : FL := fun e => (f e).bind fun d => match d with | .list xs => some xs | _ => none
def rngD (lo : Int) (n : Nat) : List D := (List.range n).map fun k => .int (lo + (k : Nat))
def iRg1 (f : FL) : FL := fun e => (f e).bind fun ds => match ds with | [.int j] => if j.natAbs < 4611686018427387904 then some (rngD 0 j.toNat) else none | _ => none
def iRg2 (f : FL) : FL := fun e => (f e).bind fun ds => match ds with | [.int i, .int j] => if i.natAbs < 4611686018427387904 ∧ j.natAbs < 4611686018427387904 then some (rngD i (j - i).toNat) else none | _ => none
def enumD (xs : List D) : List D := xs.zipIdx.map fun p => .tuple [.int (p.2 : Nat), p.1]
def iEn (f : FL) : FL := fun e => (f e).bind fun ds => match ds with | [.list xs] => some (enumD xs) | _ => none
def zipD (xs ys : List D) : List D := (xs.zip ys).map fun p => .tuple [p.1, p.2]
def iZp (f : FL) : FL := fun e => (f e).bind fun ds => match ds with | [.list xs, .list ys] => some (zipD xs ys) | [.tuple xs, .tuple ys] => some (zipD xs ys) | _ => none
section
variable {X : Cx} {tg a b : Expr} {f : FD} {fl : FL} {pos p : Pos}
theorem itj_list {K : PySem.W.Frag} {Hs : Hp} {l : Addr} {vs : List V} {ds : List D} (h : SqL K Hs l vs) (r : RpL K Hs vs ds) : ItJ K Hs (Itl K l) ds where
  stop := fun H s => ⟨vs, (same_rd s h), by rw [r.len]; exact Nat.le_refl _⟩
  go := fun i H s hi => ⟨vs, vs[i]'(by rw [r.len]; exact hi), (same_rd s h), by simp [r.len, hi]⟩
  yld := fun i H x H' Hs1 s1 s2 y d e => by
    obtain ⟨rfl, y⟩ := y
    obtain ⟨v, e1, e2⟩ := r.get e
    have := y vs ((same_rd (s1.trans s2) h))
    rw [e1] at this; cases this
    exact ⟨Hs1, Grow.refl s2, e2.sm s1⟩
theorem itj_rng {K : PySem.W.Frag} {Hs : Hp} {lo : Int} {n : Nat} : ItJ K Hs (Itr lo n) (rngD lo n) where
  stop := fun H s => by show n ≤ _; simp [rngD]
  go := fun i H s hi => by show i < n; simpa [rngD] using hi
  yld := fun i H x H' Hs1 s1 s2 y d e => by
    obtain ⟨rfl, rfl⟩ := y
    have hi : i < n := by
      have := (List.getElem?_eq_some_iff.mp e).1
      simpa [rngD] using this
    have : d = .int (lo + (i : Nat)) := by
      simp only [rngD, List.getElem?_map, List.getElem?_range hi, Option.map_some, Option.some.injEq] at e
      exact e.symm
    subst this
    exact ⟨Hs1, Grow.refl s2, .i _⟩
theorem itj_enum {K : PySem.W.Frag} {Hs : Hp} {l : Addr} {vs : List V} {ds : List D} (h : SqL K Hs l vs) (r : RpL K Hs vs ds) : ItJ K Hs (Ite K l) (enumD ds) where
  stop := fun H s => ⟨vs, (same_rd s h), by rw [r.len]; simp [enumD]⟩
  go := fun i H s hi => by
    have hi' : i < ds.length := by simpa [enumD] using hi
    exact ⟨vs, vs[i]'(by rw [r.len]; exact hi'), (same_rd s h), by simp [r.len, hi']⟩
  yld := fun i H x H' Hs1 s1 s2 y d e => by
    obtain ⟨T, x', rfl, nT, rfl, y⟩ := y
    have hi : i < ds.length := by
      have := (List.getElem?_eq_some_iff.mp e).1
      simpa [enumD] using this
    have ed : d = .tuple [.int (i : Nat), ds[i]] := by
      simp only [enumD, List.getElem?_map, List.getElem?_zipIdx, List.getElem?_eq_getElem hi, Option.map_some, Option.some.injEq] at e
      rw [← e]; simp
    subst ed
    obtain ⟨v, e1, e2⟩ := r.get (List.getElem?_eq_getElem hi)
    have := y vs ((same_rd (s1.trans s2) h))
    rw [e1] at this; cases this
    exact ⟨upd Hs1 T (.tup [.int (i : Nat), x']), Grow.new s2 nT, .t (.inl (.inl upd_same)) (.cons (.i _) (.one ((e2.sm s1).sm (same_new (s2.free nT)))))⟩
theorem itj_zip {K : PySem.W.Frag} {Hs : Hp} {l l2 : Addr} {vs us : List V} {ds es : List D} (h : SqL K Hs l vs) (r : RpL K Hs vs ds) (h2 : SqL K Hs l2 us) (r2 : RpL K Hs us es) : ItJ K Hs (Itz K l l2) (zipD ds es) where
  stop := fun H s => ⟨vs, us, (same_rd s h), (same_rd s h2), by rw [r.len, r2.len]; simp [zipD]; omega⟩
  go := fun i H s hi => by
    have hi' : i < ds.length ∧ i < es.length := by
      simp [zipD] at hi; omega
    exact ⟨vs, us, vs[i]'(by rw [r.len]; exact hi'.1), us[i]'(by rw [r2.len]; exact hi'.2), (same_rd s h), (same_rd s h2), by simp [r.len, hi'.1], by simp [r2.len, hi'.2]⟩
  yld := fun i H x H' Hs1 s1 s2 y d e => by
    obtain ⟨T, x1, x2, rfl, nT, rfl, y1, y2⟩ := y
    have hi : i < ds.length ∧ i < es.length := by
      have := (List.getElem?_eq_some_iff.mp e).1
      simp [zipD] at this; omega
    have ed : d = .tuple [ds[i], es[i]] := by
      simp only [zipD, List.getElem?_map, List.getElem?_eq_getElem (show i < (ds.zip es).length by simp; omega), Option.map_some, Option.some.injEq, List.getElem_zip] at e
      exact e.symm
    subst ed
    obtain ⟨v, e1, e2⟩ := r.get (List.getElem?_eq_getElem hi.1)
    obtain ⟨u, e3, e4⟩ := r2.get (List.getElem?_eq_getElem hi.2)
    have := y1 vs ((same_rd (s1.trans s2) h))
    rw [e1] at this; cases this
    have := y2 us ((same_rd (s1.trans s2) h2))
    rw [e3] at this; cases this
    have sT : Same Hs1 (upd Hs1 T (.tup [x1, x2])) := same_new (s2.free nT)
    exact ⟨upd Hs1 T (.tup [x1, x2]), Grow.new s2 nT, .t (.inl (.inl upd_same)) (.cons ((e2.sm s1).sm sT) (.one ((e4.sm s1).sm sT)))⟩
theorem itj_zipT {K : PySem.W.Frag} {Hs : Hp} {l l2 : Addr} {vs us : List V} {ds es : List D} (h : SqT K Hs l vs) (r : RpL K Hs vs ds) (h2 : SqT K Hs l2 us) (r2 : RpL K Hs us es) : ItJ K Hs (RZ.ItzT K l l2) (zipD ds es) where
  stop := fun H s => ⟨vs, us, (same_seqT s h), (same_seqT s h2), by rw [r.len, r2.len]; simp [zipD]; omega⟩
  go := fun i H s hi => by
    have hi' : i < ds.length ∧ i < es.length := by
      simp [zipD] at hi; omega
    exact ⟨vs, us, vs[i]'(by rw [r.len]; exact hi'.1), us[i]'(by rw [r2.len]; exact hi'.2), (same_seqT s h), (same_seqT s h2), by simp [r.len, hi'.1], by simp [r2.len, hi'.2]⟩
  yld := fun i H x H' Hs1 s1 s2 y d e => by
    obtain ⟨T, x1, x2, rfl, nT, rfl, y1, y2⟩ := y
    have hi : i < ds.length ∧ i < es.length := by
      have := (List.getElem?_eq_some_iff.mp e).1
      simp [zipD] at this; omega
    have ed : d = .tuple [ds[i], es[i]] := by
      simp only [zipD, List.getElem?_map, List.getElem?_eq_getElem (show i < (ds.zip es).length by simp; omega), Option.map_some, Option.some.injEq, List.getElem_zip] at e
      exact e.symm
    subst ed
    obtain ⟨v, e1, e2⟩ := r.get (List.getElem?_eq_getElem hi.1)
    obtain ⟨u, e3, e4⟩ := r2.get (List.getElem?_eq_getElem hi.2)
    have := y1 vs ((same_seqT (s1.trans s2) h))
    rw [e1] at this; cases this
    have := y2 us ((same_seqT (s1.trans s2) h2))
    rw [e3] at this; cases this
    have sT : Same Hs1 (upd Hs1 T (.tup [x1, x2])) := same_new (s2.free nT)
    exact ⟨upd Hs1 T (.tup [x1, x2]), Grow.new s2 nT, .t (.inl (.inl upd_same)) (.cons ((e2.sm s1).sm sT) (.one ((e4.sm s1).sm sT)))⟩
theorem ij_list (ha : PV X a f) : IJ X tg a (iSeq f) := by
  refine ⟨_, pi_list pe_we, fun env σ fp Hs H ds R rl e q => ?_⟩
  obtain ⟨d, e1, e⟩ := bind2 (γ := Unit) e
  cases d <;> simp only at e <;> try contradiction
  injection e with e; subst e
  refine ha env σ fp Hs H _ _ rl e1 fun Hs1 H1 v g1 r1 => ?_
  cases r1 with
  | l h r => exact ⟨_, rfl, ⟨_, (same_rd g1.sub h)⟩, q Hs1 H1 _ g1 (itj_list h r)⟩
theorem ij_rng1 (hg : Gl X "range") (hm : X.mg "range" = none) (ha : PAV X [a] fl) (hs : starEach [a] X.env = [(false, eval a X.env)] := by rfl) : IJ X tg (.Call (.Name "range" p) [a] [] pos) (iRg1 fl) := by
  refine ⟨_, pi_range1 hg hm pa_wa hs, fun env σ fp Hs H ds R rl e q => ?_⟩
  obtain ⟨as, e1, e⟩ := bind2 (γ := Unit) e
  refine ha env σ fp Hs H _ _ rl e1 fun Hs1 H1 vs g1 r1 => ?_
  match as, r1, e with
  | [.int j], r1, e =>
    simp only at e
    split at e <;> try contradiction
    rename_i hj
    injection e with e; subst e
    obtain ⟨v, rfl, h1⟩ := one_of (X := X) r1
    cases h1
    exact ⟨j, rfl, by omega, by omega, q Hs1 H1 _ g1 itj_rng⟩
theorem ij_rng2 (hg : Gl X "range") (hm : X.mg "range" = none) (ha : PAV X [a, b] fl) (hs : starEach [a, b] X.env = [(false, eval a X.env), (false, eval b X.env)] := by rfl) (hs2 : starEach [b] X.env = [(false, eval b X.env)] := by rfl) :
    IJ X tg (.Call (.Name "range" p) [a, b] [] pos) (iRg2 fl) := by
  refine ⟨_, pi_range2 hg hm pa_wa hs hs2, fun env σ fp Hs H ds R rl e q => ?_⟩
  obtain ⟨as, e1, e⟩ := bind2 (γ := Unit) e
  refine ha env σ fp Hs H _ _ rl e1 fun Hs1 H1 vs g1 r1 => ?_
  match as, r1, e with
  | [.int i, .int j], r1, e =>
    simp only at e
    split at e <;> try contradiction
    rename_i hj
    injection e with e; subst e
    obtain ⟨v, u, rfl, h1, h2⟩ := two_of r1
    cases h1; cases h2
    exact ⟨i, j, rfl, ⟨by omega, by omega, by omega, by omega⟩, q Hs1 H1 _ g1 itj_rng⟩
variable {elts : List Expr} {kk : Nat} {tpos : Pos}
theorem ij_enum (hg : Gl X "enumerate") (hm : X.mg "enumerate" = none) (ha : PAV X [a] fl) (hs : starEach [a] X.env = [(false, eval a X.env)] := by rfl) : IJ X (.Tuple elts kk tpos) (.Call (.Name "enumerate" p) [a] [] pos) (iEn fl) := by
  refine ⟨_, pi_enum hg hm pa_wa hs, fun env σ fp Hs H ds R rl e q => ?_⟩
  obtain ⟨as, e1, e⟩ := bind2 (γ := Unit) e
  refine ha env σ fp Hs H _ _ rl e1 fun Hs1 H1 vs g1 r1 => ?_
  match as, r1, e with
  | [.list xs], r1, e =>
    injection e with e; subst e
    obtain ⟨v, rfl, h1⟩ := one_of (X := X) r1
    cases h1 with
    | l h r => exact ⟨_, _, rfl, (same_rd g1.sub h), q Hs1 H1 _ g1 (itj_enum h r)⟩
theorem ij_zip (hg : Gl X "zip") (hm : X.mg "zip" = none) (ha : PAV X [a, b] fl) (hs : starEach [a, b] X.env = (false, eval a X.env) :: starEach [b] X.env := by rfl) (hpl : (backTo pos (starEach [b] X.env)).any (·.1) = false := by rfl) :
    IJ X (.Tuple elts kk tpos) (.Call (.Name "zip" p) [a, b] [] pos) (iZp fl) := by
  refine ⟨_, RZ.pi_zipA hg hm pa_wa hs hpl, fun env σ fp Hs H ds R rl e q => ?_⟩
  obtain ⟨as, e1, e⟩ := bind2 (γ := Unit) e
  refine ha env σ fp Hs H _ _ rl e1 fun Hs1 H1 vs g1 r1 => ?_
  match as, r1, e with
  | [.list xs, .list ys], r1, e =>
    injection e with e; subst e
    obtain ⟨v, u, rfl, h1, h2⟩ := two_of r1
    cases h1 with
    | l h r => cases h2 with
      | l h2 r2 => exact ⟨_, _, _, _, rfl, .inl ⟨(same_rd g1.sub h), (same_rd g1.sub h2), q Hs1 H1 _ g1 (itj_zip h r h2 r2)⟩⟩
  | [.tuple xs, .tuple ys], r1, e =>
    injection e with e; subst e
    obtain ⟨v, u, rfl, h1, h2⟩ := two_of r1
    cases h1 with
    | t h r => cases h2 with
      | t h2 r2 => exact ⟨_, _, _, _, rfl, .inr ⟨(same_seqT g1.sub h), (same_seqT g1.sub h2), q Hs1 H1 _ g1 (itj_zipT h r h2 r2)⟩⟩
end
def forG (A : AF) (g : GF) : List D → Ev → Option Fl
  | [], e => some (.nx e)
  | d :: ds, e => (A d e).bind fun e1 => (g e1).bind fun r => match r with
    | .nx e2 => forG A g ds e2
    | .ct e2 => forG A g ds e2
    | .bk e2 => some (.nx e2)
    | .rt x e2 => some (.rt x e2)
    | .rf x e2 => some (.rf x e2)
    | .ro x e2 => some (.ro x e2)
def gFor (f : FL) (A : AF) (g : GF) : GF := fun e => (f e).bind fun ds => forG A g ds e
theorem sj_for {X : Cx} {kp sl : List Nat} {tg iter : Expr} {bd : List Stmt} {pos : Pos} {f : FL} {A : AF} {g : GF} (hk : sl.all (fun i => !kp.contains i) = true) (hp : PassesOwn (model X.prog X.w) X.A X.env X.xe) (hc : X.calm = true)
    (hi : IJ X tg iter f) (ht : TJ X tg sl A) (hb : BJ X kp bd g) (hs : ∀ x, foldedSetIterable iter X.env x = pure x := by intro _; rfl) : SJ X kp (.For tg iter bd [] pos) (gFor f A g) := by
  obtain ⟨wi, pi, ki⟩ := hi
  obtain ⟨gt, pgt, kt⟩ := ht
  intro env σ fp Hs H r D' rl e q
  obtain ⟨ds, e1, e⟩ := bind2 (γ := Unit) e
  refine ws_of (ps_for hp hc pi pgt pss_wb hs) (ki env σ fp Hs H ds _ rl e1 fun Hs1 H1 J g1 itj => ?_)
  have kl : ∀ j ∈ kp, j ∉ sl := fun j hj z => by
    have := List.all_eq_true.mp hk j z
    rw [List.contains_iff_mem.mpr hj] at this; cases this
  refine ⟨fun i m σ' H' => m + i = ds.length ∧ ∃ env' fp' Hs', Rl X.K Hs' H' env' σ' fp' ∧ Same Hs1 Hs' ∧ forG A g (ds.drop i) env' = some r ∧ FlK X.K kp D' σ' fp' Hs' H' r, ⟨ds.length, rfl, env, fp, Hs1, g1.rl rl, Same.refl _, by simpa using e, FlK.go r q g1.adv Kp.refl⟩, ?_⟩
  rintro i m σ' H' ⟨hm, env', fp', Hs', rl', sm', e', q'⟩
  by_cases hi : i < ds.length
  · right
    refine ⟨itj.go i H' (sm'.trans rl'.sub) hi, fun σ2 H2 => (m - 1) + (i + 1) = ds.length ∧ ∃ env2 fp2 Hs2, Rl X.K Hs2 H2 env2 σ2 fp2 ∧ Same Hs1 Hs2 ∧ forG A g (ds.drop (i + 1)) env2 = some r ∧ FlK X.K kp D' σ2 fp2 Hs2 H2 r, fun σ2 H2 h => ⟨m - 1, by omega, h⟩, fun x H2 y => ?_⟩
    rw [List.drop_eq_getElem_cons hi] at e'
    obtain ⟨env1, e2, e'⟩ := bind2 (γ := Unit) e'
    obtain ⟨z, e3, e'⟩ := bind2 (γ := Unit) e'
    obtain ⟨Hs2, g2, rx⟩ := itj.yld i H' x H2 Hs' sm' rl'.sub y ds[i] (List.getElem?_eq_getElem hi)
    refine kt env' σ' fp' Hs2 H2 ds[i] x env1 _ (g2.rl rl') rx e2 fun σ3 fp3 r3 a3 o3 => ?_
    have k3 : Kp kp σ' fp' σ3 fp3 := fun j hj => o3.2 j (kl j hj)
    have q3 : FlK X.K kp D' σ3 fp3 Hs2 H2 r := FlK.go r q' ((g2.adv).trans a3) k3
    refine hb env1 σ3 fp3 Hs2 H2 z _ r3 e3 ?_
    cases z with
    | nx e2 => exact fun σ4 fp4 Hs4 H4 r4 a4 k4 => ⟨by omega, e2, fp4, Hs4, r4, (sm'.trans g2.same).trans a4.same, e', FlK.go r q3 a4 k4⟩
    | ct e2 => exact fun σ4 fp4 Hs4 H4 r4 a4 k4 => ⟨by omega, e2, fp4, Hs4, r4, (sm'.trans g2.same).trans a4.same, e', FlK.go r q3 a4 k4⟩
    | bk e2 => injection e' with e'; subst e'; exact q3
    | rt d e2 => injection e' with e'; subst e'; exact q3
    | rf d e2 => injection e' with e'; subst e'; exact q3
    | ro d e2 => injection e' with e'; subst e'; exact q3
  · left
    have e0 : i = ds.length := by omega
    subst e0
    refine ⟨itj.stop H' (sm'.trans rl'.sub), ?_⟩
    rw [List.drop_length] at e'
    injection e' with e'; subst e'
    exact q' σ' fp' Hs' H' rl' Adv.refl Kp.refl
def whG (c : FB) (g : GF) : Nat → Ev → Option Fl
  | 0, _ => none
  | n + 1, e => (c e).bind fun k => if k then (g e).bind fun r => match r with
    | .nx e2 => whG c g n e2
    | .ct e2 => whG c g n e2
    | .bk e2 => some (.nx e2)
    | .rt x e2 => some (.rt x e2)
    | .ro x e2 => some (.ro x e2)
    | .rf x e2 => some (.rf x e2) else some (.nx e)
def gWh (fuel : Ev → Nat) (c : FB) (g : GF) : GF := fun e => whG c g (fuel e) e
theorem sj_while {X : Cx} {kp : List Nat} {c : Expr} {bd : List Stmt} {pos : Pos} {fuel : Ev → Nat} {fb : FB} {g : GF} (hp : PassesOwn (model X.prog X.w) X.A X.env X.xe) (hc : PTV X c fb) (hb : BJ X kp bd g) : SJ X kp (.While c bd [] pos) (gWh fuel fb g) := by
  intro env σ fp Hs H r D' rl e q
  refine ws_of (ps_while hp pt_wt pss_wb) ⟨fun m σ' H' => ∃ env' fp' Hs', Rl X.K Hs' H' env' σ' fp' ∧ whG fb g m env' = some r ∧ FlK X.K kp D' σ' fp' Hs' H' r, ⟨fuel env, env, fp, Hs, rl, e, q⟩, ?_⟩
  rintro m σ' H' ⟨env', fp', Hs', rl', e', q'⟩
  cases m with
  | zero => cases e'
  | succ m =>
    obtain ⟨k, e1, e'⟩ := bind2 (γ := Unit) e'
    refine hc env' σ' fp' Hs' H' k _ rl' e1 fun Hs1 H1 g1 => ?_
    cases k with
    | false =>
      have e2 : Fl.nx env' = r := by simpa using e'
      subst e2
      exact iteF (q' σ' fp' Hs1 H1 (g1.rl rl') g1.adv Kp.refl)
    | true =>
      simp only [if_true] at e'
      obtain ⟨z, e3, e'⟩ := bind2 (γ := Unit) e'
      refine iteT ⟨fun σ2 H2 => ∃ env2 fp2 Hs2, Rl X.K Hs2 H2 env2 σ2 fp2 ∧ whG fb g m env2 = some r ∧ FlK X.K kp D' σ2 fp2 Hs2 H2 r, fun σ2 H2 h => ⟨m, Nat.lt_succ_self _, h⟩, ?_⟩
      have q3 := FlK.go r q' (g1.adv (fp := fp')) (Kp.refl (kp := kp) (σ := σ'))
      refine hb env' σ' fp' Hs1 H1 z _ (g1.rl rl') e3 ?_
      cases z with
      | nx e2 => exact fun σ4 fp4 Hs4 H4 r4 a4 k4 => ⟨e2, fp4, Hs4, r4, e', FlK.go r q3 a4 k4⟩
      | ct e2 => exact fun σ4 fp4 Hs4 H4 r4 a4 k4 => ⟨e2, fp4, Hs4, r4, e', FlK.go r q3 a4 k4⟩
      | bk e2 => injection e' with e'; subst e'; exact q3
      | rt d e2 => injection e' with e'; subst e'; exact q3
      | rf d e2 => injection e' with e'; subst e'; exact q3
      | ro d e2 => injection e' with e'; subst e'; exact q3
end TL
set_option Elab.async false
set_option linter.all false
set_option maxRecDepth 100000
namespace TL
open PySem PySem.Spec L2
open PyProof.Rows hiding St
def wipeE (e : Ev) : List Nat → Ev
  | [] => e
  | v :: vs => (wipeE e vs).set v .un
def wipeF (fp : Fp) : List Nat → Fp
  | [] => fp
  | v :: vs => pt (wipeF fp vs) v []
theorem wipeE_len (e : Ev) : ∀ vs, (wipeE e vs).length = e.length
  | [] => rfl
  | v :: vs => by unfold wipeE; rw [List.length_set, wipeE_len e vs]
theorem Rl.wipe {K : PySem.W.Frag} {Hs H : Hp} {e : Ev} {σ : L2.St} {fp : Fp} (r : Rl K Hs H e σ fp) : ∀ vs : List Nat, (∀ v ∈ vs, v < e.length) → Rl K Hs H (wipeE e vs) (wipe σ vs) (wipeF fp vs)
  | [], _ => r
  | v :: vs, h => (Rl.wipe r vs fun x m => h x (List.mem_cons_of_mem _ m)).putUn (by rw [wipeE_len]; exact h v List.mem_cons_self)
theorem wipeF_sub {fp : Fp} {a : Addr} : ∀ {vs : List Nat} {j : Nat}, a ∈ wipeF fp vs j → a ∈ fp j
  | [], _, h => h
  | v :: vs, j, h => by
    unfold wipeF at h
    by_cases q : j = v
    · rw [q, pt_same] at h; exact (List.not_mem_nil h).elim
    · rw [pt_ne q] at h; exact wipeF_sub h
theorem wipe_in {σ : L2.St} {j : Nat} : ∀ {vs : List Nat}, j ∈ vs → j < σ.length → (wipe σ vs)[j]? = some none
  | v :: vs, h, hl => by
    show ((wipe σ vs).set v none)[j]? = some none
    by_cases q : j = v
    · subst q; rw [List.getElem?_set_self (by rw [wipe_length]; exact hl)]
    · rw [List.getElem?_set_ne (Ne.symm q)]
      rcases List.mem_cons.mp h with e | h
      · exact (q e).elim
      · exact wipe_in h hl
theorem wipe_eq {σ σ2 : L2.St} {vs sl : List Nat} (hl : σ2.length = σ.length) (hs : ∀ j ∈ sl, j ∈ vs) (h : ∀ j, j ∉ sl → σ2[j]? = (wipe σ vs)[j]?) : wipe σ2 vs = wipe σ vs := by
  apply List.ext_getElem?
  intro j
  by_cases m : j ∈ vs
  · by_cases q : j < σ.length
    · rw [wipe_in m (by rw [hl]; exact q), wipe_in m q]
    · rw [List.getElem?_eq_none (by rw [wipe_length, hl]; omega), List.getElem?_eq_none (by rw [wipe_length]; omega)]
  · rw [wipe_out m, h j fun z => m (hs j z)]

def lcG (A : AF) (t : FB) (f : FD) : List D → Ev → Option (List D)
  | [], _ => some []
  | d :: ds, e => (A d e).bind fun e1 => (t e1).bind fun k => if k then (f e1).bind fun y => (lcG A t f ds e).bind fun ys => some (y :: ys) else lcG A t f ds e
def fLc (vs : List Nat) (fi : FL) (A : AF) (t : FB) (f : FD) : FL := fun e => (fi e).bind fun ds => if ds.length ≤ LN ∧ (vs.all fun v => decide (v < e.length)) = true then lcG A t f ds (wipeE e vs) else none
def bYes : FB := fun _ => some true
def WG (X : Cx) (tg : Expr) (v : V) (σ : L2.St) (H : Hp) (Q : L2.St → Hp → Prop) : Prop := ∀ (pins : List (Addr × Obj)) (s : Shared) (u : Value), Inv X pins σ H s → RelV v u → wpAny (model X.prog X.w) X.A (assign tg X.env u) (fun _ s' => ∃ σ' H', Inv X pins σ' H' s' ∧ Q σ' H') X.xe s
theorem wg_of {X : Cx} {tg : Expr} {g : TG} {v : V} {σ : L2.St} {H : Hp} {Q : L2.St → Hp → Prop} (h : PG X tg g) (q : g v σ H Q) : WG X tg v σ H Q := fun pins s u I r => h.run pins s σ H v u Q I r q
def TsJ (X : Cx) (ifs : List Expr) (t : FB) : Prop := ∀ (env : Ev) (σ : L2.St) (fp : Fp) (Hs H : Hp) (d : Bool) (Q : Bool → Hp → Prop), Rl X.K Hs H env σ fp → t env = some d → (∀ Hs' H', Grow Hs H Hs' H' → Q d H') →
  ∀ (pins : List (Addr × Obj)) (s : Shared), Inv X pins σ H s → wpAny (model X.prog X.w) X.A (forIn ifs true fun c r => if r = true then do let ok ← isTrue c X.env (eval c X.env); pure (ForInStep.yield ok) else pure (ForInStep.yield r)) (TP X pins σ Q) X.xe s
theorem ts_nil {X : Cx} : TsJ X [] bYes := fun env σ fp Hs H d Q rl e q pins s I => by
  injection e with e; subst e
  exact pts_nil.run pins s σ H Q I (q Hs H (Grow.refl rl.sub))
theorem ts_one {X : Cx} {c : Expr} {t : FB} (h : PTV X c t) : TsJ X [c] t := fun env σ fp Hs H d Q rl e q pins s I =>
  (pts_one (t := WT X c) pt_wt).run pins s σ H Q I (h env σ fp Hs H d Q rl e q)

def gFam (X : Cx) (scope : Scope) (tg : Expr) : TG := fun v σ H Q => ∀ (s : Shared) (H0 : Hp) (C : Addr) (cl : List (Str × Addr)) (fp : List Addr), WG (X.blk s H0 scope (compEnvC scope cl C X.env) fp) tg v σ H Q
def tFam (X : Cx) (scope : Scope) (ifs : List Expr) : TT := fun σ H Q => ∀ (s : Shared) (H0 : Hp) (C : Addr) (cl : List (Str × Addr)) (fp : List Addr) (pins : List (Addr × Obj)) (s1 : Shared), Inv (X.blk s H0 scope (compEnvC scope cl C X.env) fp) pins σ H s1 → wpAny (model X.prog X.w) X.A (forIn ifs true fun c r => if r = true then do let ok ← isTrue c (compEnvC scope cl C X.env) (eval c (compEnvC scope cl C X.env)); pure (ForInStep.yield ok) else pure (ForInStep.yield r)) (TP (X.blk s H0 scope (compEnvC scope cl C X.env) fp) pins σ Q) (fun _ _ => False) s1
def eFam (X : Cx) (scope : Scope) (elt : Expr) : TE := fun σ H Q => ∀ (s : Shared) (H0 : Hp) (C : Addr) (cl : List (Str × Addr)) (fp : List Addr), WE (X.blk s H0 scope (compEnvC scope cl C X.env) fp) elt σ H Q
theorem lc_main {X : Cx} {elt tg : Expr} {ifs : List Expr} {scope : Scope} {vs : List Nat} {sl : List Nat} {wi : TI} {fi : FL} {A : AF} {t : FB} {f : FD}
    (ki : ∀ (env : Ev) (σ : L2.St) (fp : Fp) (Hs H : Hp) (ds : List D) (R : It → Hp → Prop), Rl X.K Hs H env σ fp → fi env = some ds → (∀ Hs' H' J, Grow Hs H Hs' H' → ItJ X.K Hs' J ds → R J H') → wi σ H R)
    (hsl : (sl.all fun j => vs.contains j) = true)
    (hg : ∀ (s : Shared) (H : Hp) (C : Addr) (cl : List (Str × Addr)) (fp : List Addr), TJ (X.blk s H scope (compEnvC scope cl C X.env) fp) tg sl A)
    (ht : ∀ (s : Shared) (H : Hp) (C : Addr) (cl : List (Str × Addr)) (fp : List Addr), TsJ (X.blk s H scope (compEnvC scope cl C X.env) fp) ifs t)
    (he : ∀ (s : Shared) (H : Hp) (C : Addr) (cl : List (Str × Addr)) (fp : List Addr), PV (X.blk s H scope (compEnvC scope cl C X.env) fp) elt f)
    {env : Ev} {σ : L2.St} {fp : Fp} {Hs H : Hp} {xs : List D} {Q : VK} (rl : Rl X.K Hs H env σ fp) (e : fLc vs fi A t f env = some xs) (q : PoF X.K Hs H xs Q) : tLc wi (gFam X scope tg) (tFam X scope ifs) (eFam X scope elt) vs σ H Q := by
  obtain ⟨ds, e1, e⟩ := bind2 (γ := Unit) e
  split at e <;> try contradiction
  rename_i hz
  obtain ⟨hz, hv⟩ := hz
  have hv' : ∀ v ∈ vs, v < env.length := fun v m => by simpa using List.all_eq_true.mp hv v m
  have hsl' : ∀ j ∈ sl, j ∈ vs := fun j m => List.contains_iff_mem.mp (List.all_eq_true.mp hsl j m)
  refine ki env σ fp Hs H ds _ rl e1 fun Hs1 H1 J g1 itj L hL => ?_
  have rl1 := g1.rl rl
  have rw1 := rl1.wipe _ hv'
  have hL0 : H L = none := g1.keep.free hL
  -- turn by turn
  refine ⟨fun i m H' => m + i = ds.length ∧ ∃ Hs' acc dn rest, Grow Hs H Hs' H' ∧ Same Hs1 Hs' ∧ H' L = some (.lst acc) ∧ Hs' L = none ∧ RpL X.K Hs' acc dn ∧ dn.length ≤ i ∧ lcG A t f (ds.drop i) (wipeE env vs) = some rest ∧ dn ++ rest = xs ∧ Rl X.K Hs' H' (wipeE env vs) (wipe σ vs) (wipeF fp vs),
    ⟨ds.length, rfl, Hs1, [], [], xs, ⟨g1.same, g1.keep.trans (same_new hL), g1.sub.trans (same_new hL), g1.fre⟩, Same.refl _, upd_same, g1.sub.free hL, .nil, Nat.zero_le _, by simpa using e, rfl, (Grow.own g1.sub hL).rl rw1⟩, ?_⟩
  rintro i m H' ⟨hm, Hs', acc, dn, rest, g', s1', hD, hDs, ra, hdn, el, ex, rl'⟩
  by_cases hi : i < ds.length
  · right
    refine ⟨itj.go i H' (s1'.trans g'.sub) hi, fun H2 => (m - 1) + (i + 1) = ds.length ∧ ∃ Hs' acc dn rest, Grow Hs H Hs' H2 ∧ Same Hs1 Hs' ∧ H2 L = some (.lst acc) ∧ Hs' L = none ∧ RpL X.K Hs' acc dn ∧ dn.length ≤ i + 1 ∧ lcG A t f (ds.drop (i + 1)) (wipeE env vs) = some rest ∧ dn ++ rest = xs ∧ Rl X.K Hs' H2 (wipeE env vs) (wipe σ vs) (wipeF fp vs), fun H2 h => ⟨m - 1, by omega, h⟩, fun x H2 y => ?_⟩
    rw [List.drop_eq_getElem_cons hi] at el
    obtain ⟨env1, e2, el⟩ := bind2 (γ := Unit) el
    obtain ⟨k, e3, el⟩ := bind2 (γ := Unit) el
    obtain ⟨Hs2, g2, rx⟩ := itj.yld i H' x H2 Hs' s1' g'.sub y ds[i] (List.getElem?_eq_getElem hi)
    have dL2 : Hs2 L = none := by
      cases z : Hs2 L with
      | none => rfl
      | some o =>
        rcases g2.fre L o z with ⟨o', z⟩ | z
        · rw [hDs] at z; cases z
        · rw [hD] at z; cases z
    have lL2 : H2 L = some (.lst acc) := g2.keep _ _ hD
    intro s0 H0 C cl fpp
    obtain ⟨gt, pgt, kt⟩ := hg s0 H0 C cl fpp
    refine wg_of pgt (kt _ _ _ Hs2 H2 ds[i] x env1 _ (g2.rl rl') rx e2 fun σ3 fp3 r3 a3 o3 => ?_)
    have wEq : wipe σ3 vs = wipe σ vs := wipe_eq (by rw [o3.1, wipe_length]) hsl' fun j hj => (o3.2 j hj).1
    refine ⟨wEq, fun s0 H0 C cl fpp => ht s0 H0 C cl fpp env1 σ3 fp3 Hs2 H2 k _ r3 e3 fun Hs3 H3 g3 => ?_⟩
    have g03 : Grow Hs H Hs3 H3 := (g'.trans g2).trans g3
    have dL3 : Hs3 L = none := by
      cases z : Hs3 L with
      | none => rfl
      | some o =>
        rcases g3.fre L o z with ⟨o', z⟩ | z
        · rw [dL2] at z; cases z
        · rw [lL2] at z; cases z
    have lL3 : H3 L = some (.lst acc) := g3.keep _ _ lL2
    cases k with
    | false =>
      refine iteF ⟨by omega, Hs3, acc, dn, rest, g03, (s1'.trans g2.same).trans g3.same, lL3, dL3, (ra.sm g2.same).sm g3.same, by omega, by simpa using el, ex, g3.rl (g2.rl rl')⟩
    | true =>
      simp only [if_true] at el
      obtain ⟨yv, e4, el⟩ := bind2 (γ := Unit) el
      obtain ⟨ys, e5, el⟩ := bind2 (γ := Unit) el
      injection el with el; subst el
      refine iteT fun s0 H0 C cl fpp => he s0 H0 C cl fpp env1 σ3 fp3 Hs3 H3 yv _ (g3.rl r3) e4 fun Hs4 H4 v g4 r4 => ?_
      have dL4 : Hs4 L = none := by
        cases z : Hs4 L with
        | none => rfl
        | some o =>
          rcases g4.fre L o z with ⟨o', z⟩ | z
          · rw [dL3] at z; cases z
          · rw [lL3] at z; cases z
      have lL4 : H4 L = some (.lst acc) := g4.keep _ _ lL3
      have g04 : Grow Hs H Hs4 H4 := g03.trans g4
      have la : acc.length = dn.length := ra.len
      have nf : ∀ j, L ∉ wipeF fp vs j := fun j mm => rl1.free hL j (wipeF_sub mm)
      have rl4 := g4.rl (g3.rl (g2.rl rl'))
      refine ⟨acc, lL4, by rw [ln_eq]; omega, by omega, Hs4, acc ++ [v], dn ++ [yv], ys, ⟨g04.same, fun b o h => ?_, fun b o h => ?_, g04.fre⟩, ((s1'.trans g2.same).trans g3.same).trans g4.same, upd_same, dL4, (((ra.sm g2.same).sm g3.same).sm g4.same).app (.one r4), by rw [List.length_append]; simp; omega, e5, by rw [← ex]; simp, ?_⟩
      · have nb : b ≠ L := ne_of_none h hL0
        rw [upd_ne nb]; exact g04.keep _ _ h
      · have nb : b ≠ L := ne_of_none h dL4
        rw [upd_ne nb]; exact g04.sub _ _ h
      · refine ⟨rl4.len, fun j s h => ?_, rl4.out, rl4.nd, rl4.ap, rl4.fr, fun b o h => ?_⟩
        · obtain ⟨o, h1, h2⟩ := rl4.pl j s h
          refine ⟨o, h1, h2.keep (Same.refl _) fun b mb o h => ?_⟩
          rw [upd_ne (fun z => by subst z; exact nf j mb)]; exact h
        · have nb : b ≠ L := ne_of_none h dL4
          rw [upd_ne nb]; exact rl4.sub _ _ h
  · left
    have e0 : i = ds.length := by omega
    subst e0
    refine ⟨itj.stop H' (s1'.trans g'.sub), ?_⟩
    rw [List.drop_length] at el
    injection el with el; subst el
    have ed : dn = xs := by simpa using ex
    subst ed
    exact q Hs' H' L acc g' hL0 hDs hD ra
theorem fv_lc {X : Cx} {elt tg iter : Expr} {ifs : List Expr} {scope : Scope} {own : List (Str × Nat)} {pos : Pos} {sl : List Nat} {fi : FL} {A : AF} {t : FB} {f : FD} (hc : X.calm = true) (hN : X.N.Nodup) (hi : IJ X tg iter fi) (ok : BlkOk X.N X.env.scope scope own)
    (hsl : (sl.all fun j => (own.map (·.2)).contains j) = true)
    (hg : ∀ (s : Shared) (H : Hp) (C : Addr) (cl : List (Str × Addr)) (fp : List Addr), TJ (X.blk s H scope (compEnvC scope cl C X.env) fp) tg sl A)
    (ht : ∀ (s : Shared) (H : Hp) (C : Addr) (cl : List (Str × Addr)) (fp : List Addr), TsJ (X.blk s H scope (compEnvC scope cl C X.env) fp) ifs t)
    (he : ∀ (s : Shared) (H : Hp) (C : Addr) (cl : List (Str × Addr)) (fp : List Addr), PV (X.blk s H scope (compEnvC scope cl C X.env) fp) elt f) (hs : ∀ x, foldedSetIterable iter X.env x = pure x := by intro _; rfl) :
    FV X (.ListComp elt [⟨tg, iter, ifs, 0⟩] scope pos) (fLc (own.map (·.2)) fi A t f) := by
  obtain ⟨wi, pi, ki⟩ := hi
  intro env σ fp Hs H xs Q rl e q
  exact we_of (pe_lc (wi := wi) (g := gFam X scope tg) (tt := tFam X scope ifs) (te := eFam X scope elt) hc hN pi ok (fun s H C cl fp => ⟨fun pins s1 σ H v u Q I r h => h _ _ _ _ _ pins s1 u I r⟩) (fun s H C cl fp => ⟨fun pins s1 σ H Q I h => h _ _ _ _ _ pins s1 I⟩) (fun s H C cl fp => ⟨fun pins s1 σ H Q I h => h _ _ _ _ _ pins s1 I⟩) hs)
    (lc_main ki hsl hg ht he rl e q)
theorem sj_lc {X : Cx} {kp : List Nat} {i : Nat} {y : Str} {py : Pos} {elt tg iter : Expr} {ifs : List Expr} {scope : Scope} {own : List (Str × Nat)} {pos spos : Pos} {sl : List Nat} {fi : FL} {A : AF} {t : FB} {f : FD} (hk : kp.contains i = false) (hc : X.calm = true) (hN : X.N.Nodup) (hy : X.N[i]? = some y) (hyl : X.env.scope.names.lookup y = some .local)
    (hsw : swapsWith (.ListComp elt [⟨tg, iter, ifs, 0⟩] scope pos) (some (.Name y py)) spos.line X.env = pure true) (hi : IJ X tg iter fi) (ok : BlkOk X.N X.env.scope scope own)
    (hsl : (sl.all fun j => (own.map (·.2)).contains j) = true)
    (hg : ∀ (s : Shared) (H : Hp) (C : Addr) (cl : List (Str × Addr)) (fp : List Addr), TJ (X.blk s H scope (compEnvC scope cl C X.env) fp) tg sl A)
    (ht : ∀ (s : Shared) (H : Hp) (C : Addr) (cl : List (Str × Addr)) (fp : List Addr), TsJ (X.blk s H scope (compEnvC scope cl C X.env) fp) ifs t)
    (he : ∀ (s : Shared) (H : Hp) (C : Addr) (cl : List (Str × Addr)) (fp : List Addr), PV (X.blk s H scope (compEnvC scope cl C X.env) fp) elt f) (hs : ∀ x, foldedSetIterable iter X.env x = pure x := by intro _; rfl) :
    SJ X kp (.Assign [.Name y py] (.ListComp elt [⟨tg, iter, ifs, 0⟩] scope pos) spos) (gOwn i (fLc (own.map (·.2)) fi A t f)) := by
  obtain ⟨wi, pi, ki⟩ := hi
  intro env σ fp Hs H r D' rl e q
  obtain ⟨xs, e1, e⟩ := bind2 (γ := Unit) e
  split at e <;> try contradiction
  rename_i hl
  injection e with e; subst e
  refine ws_of (ps_setLc (wi := wi) (g := gFam X scope tg) (tt := tFam X scope ifs) (te := eFam X scope elt) hc hN hy hyl hsw pi ok (fun s H C cl fp => ⟨fun pins s1 σ H v u Q I r h => h _ _ _ _ _ pins s1 u I r⟩) (fun s H C cl fp => ⟨fun pins s1 σ H Q I h => h _ _ _ _ _ pins s1 I⟩) (fun s H C cl fp => ⟨fun pins s1 σ H Q I h => h _ _ _ _ _ pins s1 I⟩) hs) ?_
  refine lc_main ki hsl hg ht he rl e1 fun Hs1 H1 p vs g1 n n' h1 r1 => ?_
  exact q _ _ Hs1 H1 ((g1.rl rl).putOw hl (rl.free n) n' h1 r1) (adv_ow g1.adv n) (Kp.set hk)
end TL
set_option Elab.async false
set_option linter.all false
set_option maxRecDepth 100000
namespace TL
open PySem PySem.Spec L2
open PyProof.Rows hiding St
section
variable {K : PySem.W.Frag} {Hs H : Hp} {e : Ev} {σ : L2.St} {fp : Fp}
theorem Rl.chg (r : Rl K Hs H e σ fp) {i : Nat} {xs ys : List D} {a : Addr} {vs us : List V} (es : e[i]? = some (.ow xs)) (h1 : σ[i]? = some (some (.ref a))) (h2 : fp i = [a]) (h : RpL K Hs us ys) : Rl K Hs (upd H a (.lst us)) (e.set i (.ow ys)) σ fp := by
  have hi : i < e.length := (List.getElem?_eq_some_iff.mp es).1
  have mi : a ∈ fp i := by rw [h2]; simp
  refine ⟨by simp [r.len], fun j s h => ?_, fun j hj => r.out j (by simpa using hj), r.nd, r.ap, r.fr, fun b o h => ?_⟩
  · by_cases q : j = i
    · subst q
      rw [List.getElem?_set_self hi] at h
      cases h
      exact ⟨_, h1, a, us, rfl, h2, upd_same, by assumption⟩
    · rw [List.getElem?_set_ne (Ne.symm q)] at h
      obtain ⟨o, k1, k2⟩ := r.pl j s h
      refine ⟨o, k1, k2.keep (Same.refl _) fun b mb o h => ?_⟩
      rw [upd_ne (fun z => by subst z; exact q (r.ap j i b mb mi))]; exact h
  · have nb : b ≠ a := ne_of_none h (r.fr i a mi)
    rw [upd_ne nb]; exact r.sub _ _ h
theorem adv_chg {i : Nat} {a : Addr} {o : HO} (mi : a ∈ fp i) : Adv fp Hs H fp Hs (upd H a o) := ⟨Same.refl _, fun b u h n => by rw [upd_ne (fun z => by subst z; exact n i mi)]; exact h, fun b h => by
  by_cases z : b = a
  · subst z; rw [upd_same] at h; cases h
  · rw [upd_ne z] at h; exact h, fun j b m => .inl ⟨j, m⟩, fun b o h => .inl ⟨o, h⟩⟩
end
section
variable {X : Cx} {kp : List Nat} {a b : Expr} {es : List Expr} {f g : FD} {pos p apos cpos : Pos} {x : Str}
theorem sj_app (i : Nat) {pos' : Pos} (ha : PV X a f) (hN : X.N[i]? = some x := by rfl) (hv : Vis X.env.scope x := by first | exact Or.inl rfl | exact Or.inr (Or.inl rfl) | exact Or.inr (Or.inr rfl)) (hd : (x == ("__debug__" : Str)) = false := by decide)
    (hcd : (x == ("__classdict__" : Str)) = false := by decide)
    (hbase : attributeBase (.Name x p) "append" X.env (eval (.Name x p) X.env) = eval (.Name x p) X.env := by rfl)
    (hfew : ((backTo cpos (starEach [a] X.env)).all (fun x => !x.1) && (backToKw cpos (keywordEach [] X.env)).all (fun x => x.1.isSome) && decide (([a] : List Expr).length + ([] : List Keyword).length + (if ([] : List Keyword).isEmpty then 0 else 1) < 30)) = true := by rfl)
    (hline : (apos.endLine == cpos.line) = true := by rfl) (hs : starEach [a] X.env = (false, eval a X.env) :: starEach [] X.env := by rfl) (hpl : (backTo cpos (starEach [] X.env)).any (·.1) = false := by rfl)
    (hw : swapsWith (.Call (.Attribute (.Name x p) "append" apos) [a] [] cpos) none pos'.line X.env = pure false := by rfl) :
    SJ X kp (.Expr (.Call (.Attribute (.Name x p) "append" apos) [a] [] cpos) pos') (gApp i f) := by
  intro env σ fp Hs H r D' rl e q
  obtain ⟨d, e1, e⟩ := bind2 (γ := Unit) e
  cases es : env[i]? with
  | none => rw [es] at e; cases e
  | some s =>
    rw [es] at e
    cases s <;> simp only at e <;> try contradiction
    rename_i xs
    split at e <;> try contradiction
    rename_i hz
    injection e with e; subst e
    obtain ⟨o, h1, l, vs, rfl, h2, h3, h4⟩ := rl.pl i _ es
    have mi : l ∈ fp i := by rw [h2]; simp
    refine ws_of (ps_expr (pe_bm PySem.F.plainAttrs_list PySem.F.slot_list_append PySem.F.type_list_append mt_append (pe_var hN hv hd hcd) (pa_cons pe_we pa_nil hs) hbase hfew hline hs hpl) hw) ?_
    refine ⟨.ref l, h1, .inl ⟨rfl, _, SqL.of h3⟩, ha env σ fp Hs H d _ rl e1 fun Hs1 H1 v g1 r1 => ?_⟩
    refine ⟨l, vs, v, rfl, rfl, g1.keep _ _ h3, by rw [ln_eq, h4.len]; exact hz, ?_⟩
    exact q σ fp Hs1 _ ((g1.rl rl).chg es h1 h2 (vs := vs) ((h4.sm g1.same).app (.one r1))) (g1.adv.trans (adv_chg mi)) Kp.refl
def asN : D → Option Int
  | .int i => some i
  | _ => none
theorem asN_eq {d : D} {n : Int} (h : asN d = some n) : d = .int n := by
  cases d <;> simp only [asN] at h <;> try contradiction
  injection h with h; rw [h]
def ownE (i : Nat) (e : Ev) : Option (List D) := match e[i]? with
  | some (.ow xs) => some xs
  | _ => none
theorem ownE_eq {i : Nat} {e : Ev} {xs : List D} (h : ownE i e = some xs) : e[i]? = some (.ow xs) := by
  unfold ownE at h
  cases es : e[i]? with
  | none => rw [es] at h; cases h
  | some s =>
    rw [es] at h
    cases s <;> simp only at h <;> try contradiction
    injection h with h; rw [h]
def gPut (i : Nat) (f k : FD) : GF := fun e => (f e).bind fun d => ((k e).bind asN).bind fun n => (ownE i e).bind fun xs => (ixN xs.length n).bind fun j => some (.nx (e.set i (.ow (xs.set j d))))
theorem sj_put (i : Nat) (ha : PV X a f) (hb : PV X b g) (hN : X.N[i]? = some x := by rfl) (hv : Vis X.env.scope x := by first | exact Or.inl rfl | exact Or.inr (Or.inl rfl) | exact Or.inr (Or.inr rfl)) (hd : (x == ("__debug__" : Str)) = false := by decide)
    (hcd : (x == ("__classdict__" : Str)) = false := by decide) {spos : Pos}
    (hset : ∀ v, assign (.Subscript (.Name x p) b spos) X.env v = (do
      let ov ← holding [v] (eval (.Name x p) X.env)
      let iv ← holding [v, ov] (eval b X.env)
      standAt spos
      holding [v, ov, iv] (setItem ov iv v)
      release [v, ov, iv] []) := by intro _; rfl)
    (hs : swapsWithSole [.Subscript (.Name x p) b spos] a pos.line X.env = pure false := by rfl) (hw : swappedStores [.Subscript (.Name x p) b spos] a X.env = pure none := by rfl)
    (h1 : (assignEach [.Subscript (.Name x p) b spos] X.env).map (·.2) = [assign (.Subscript (.Name x p) b spos) X.env] := by rfl) : SJ X kp (.Assign [.Subscript (.Name x p) b spos] a pos) (gPut i f g) := by
  intro env σ fp Hs H r D' rl e q
  obtain ⟨d, e1, e⟩ := bind2 (γ := Unit) e
  obtain ⟨n, e2, e⟩ := bind2 (γ := Unit) e
  obtain ⟨xs, es, e⟩ := bind2 (γ := Unit) e
  obtain ⟨j, e3, e⟩ := bind2 (γ := Unit) e
  obtain ⟨dn, e2, e2'⟩ := bind2 (γ := Unit) e2
  have en := asN_eq e2'
  have es := ownE_eq es
  subst en
  injection e with e; subst e
  obtain ⟨o, k1, l, vs, rfl, k2, k3, k4⟩ := rl.pl i _ es
  have mi : l ∈ fp i := by rw [k2]; simp
  refine ws_of (ps_asg pe_we (pg_sub (pe_var hN hv hd hcd) pe_we set_list hset) hs hw h1) (ha env σ fp Hs H d _ rl e1 fun Hs1 H1 v g1 r1 => ?_)
  refine ⟨.ref l, k1, hb env σ fp Hs1 H1 _ _ (g1.rl rl) e2 fun Hs2 H2 u g2 r2 => ?_⟩
  cases r2
  refine ⟨l, vs, n, j, rfl, rfl, g2.keep _ _ (g1.keep _ _ k3), by rw [k4.len]; exact e3, ?_⟩
  have g := g1.trans g2
  exact q σ fp Hs2 _ ((g.rl rl).chg es k1 k2 (vs := vs) ((k4.sm g.same).set (r1.sm g2.same) j)) (g.adv.trans (adv_chg mi)) Kp.refl
def fIxO (i : Nat) (k : FD) : FD := fun e => ((k e).bind asN).bind fun n => (ownE i e).bind fun xs => atI xs n
theorem pv_ixO (i : Nat) (hb : PV X b g) (hs : PlainIx b) (hN : X.N[i]? = some x := by rfl) (hv : Vis X.env.scope x := by first | exact Or.inl rfl | exact Or.inr (Or.inl rfl) | exact Or.inr (Or.inr rfl)) (hd : (x == ("__debug__" : Str)) = false := by decide)
    (hcd : (x == ("__classdict__" : Str)) = false := by decide) : PV X (.Subscript (.Name x p) b pos) (fIxO i g) := by
  intro env σ fp Hs H d Q rl e q
  obtain ⟨n, e1, e⟩ := bind2 (γ := Unit) e
  obtain ⟨xs, es, e⟩ := bind2 (γ := Unit) e
  obtain ⟨dn, e1, e1'⟩ := bind2 (γ := Unit) e1
  have en := asN_eq e1'
  have es := ownE_eq es
  subst en
  obtain ⟨o, k1, l, vs, rfl, k2, k3, k4⟩ := rl.pl i _ es
  refine we_of (pe_ix ix_list (pe_var hN hv hd hcd) pe_we hs) ⟨.ref l, k1, hb env σ fp Hs H _ _ rl e1 fun Hs1 H1 u g1 r1 => ?_⟩
  cases r1
  obtain ⟨w, z1, z2⟩ := atI_rp (k4.sm g1.same) e
  exact ⟨l, vs, n, w, rfl, rfl, SqL.of (g1.keep _ _ k3), z1, (q.go g1).at g1.sub z2⟩

def PJ (X : Cx) (e : Option Expr) (f : Ev → Option (Option Int)) : Prop := ∃ t, PO X e t ∧ ∀ (env : Ev) (σ : L2.St) (fp : Fp) (Hs H : Hp) (d : Option Int) (Q : Option Int → Hp → Prop), Rl X.K Hs H env σ fp → f env = some d → (∀ Hs' H', Grow Hs H Hs' H' → Q d H') → t σ H Q
def pNo : Ev → Option (Option Int) := fun _ => some none
def asI : D → Option (Option Int)
  | .int i => some (some i)
  | _ => none
def pSome (f : FD) : Ev → Option (Option Int) := fun e => (f e).bind asI
theorem pj_no : PJ X none pNo := ⟨_, po_none, fun env σ fp Hs H d Q rl e q => by injection e with e; subst e; exact q Hs H (Grow.refl rl.sub)⟩
theorem pj_some (ha : PV X a f) : PJ X (some a) (pSome f) := ⟨_, po_some pe_we, fun env σ fp Hs H d Q rl e q => by
  obtain ⟨x, e1, e⟩ := bind2 (γ := Unit) e
  cases x <;> simp only [asI] at e <;> try contradiction
  injection e with e; subst e
  exact ha env σ fp Hs H _ _ rl e1 fun Hs1 H1 v g1 r1 => by
    cases r1
    exact ⟨_, rfl, q Hs1 H1 g1⟩⟩
def fSl (f : FD) (lo hi : Ev → Option (Option Int)) : FL := fun e => (f e).bind fun d => (lo e).bind fun l => (hi e).bind fun u => match d with
  | .list xs => some (cutX xs l u)
  | _ => none
theorem cut_rp {K : PySem.W.Frag} {H : Hp} {vs : List V} {ds : List D} (r : RpL K H vs ds) (l u : Option Int) : RpL K H (cutV vs l u) (cutX ds l u) := by
  unfold cutV cutX
  rw [r.len]
  exact (r.drop _).take _
theorem fv_sl {lo hi : Option Expr} {p2 : Pos} {fl fh : Ev → Option (Option Int)} (ha : PV X a f) (h1 : PJ X lo fl) (h2 : PJ X hi fh) : FV X (.Subscript a (.Slice lo hi none p2) pos) (fSl f fl fh) := by
  obtain ⟨t1, p1, k1⟩ := h1
  obtain ⟨t2, p2', k2⟩ := h2
  intro env σ fp Hs H xs Q rl e q
  obtain ⟨d, e1, e⟩ := bind2 (γ := Unit) e
  obtain ⟨l, e2, e⟩ := bind2 (γ := Unit) e
  obtain ⟨u, e3, e⟩ := bind2 (γ := Unit) e
  cases d <;> simp only at e <;> try contradiction
  injection e with e; subst e
  refine we_of (pe_slice sl_list pe_we p1 p2') (ha env σ fp Hs H _ _ rl e1 fun Hs1 H1 v g1 r1 => k1 env σ fp Hs1 H1 l _ (g1.rl rl) e2 fun Hs2 H2 g2 => k2 env σ fp Hs2 H2 u _ (g2.rl (g1.rl rl)) e3 fun Hs3 H3 g3 => ?_)
  cases r1 with
  | @l a vs ds h r =>
    have g := (g1.trans g2).trans g3
    have sm : Same Hs1 Hs3 := g2.same.trans g3.same
    exact ⟨_, _, rfl, (same_rd g.sub (same_rd sm h)), fun p hp => (q.go g).new g.sub (cut_rp (r.sm sm) l u) hp⟩
end
def spV (K : PySem.W.Frag) (n : Nat) (m : List D → Option D) : Sp := fun vs H Q _ => vs.length = n ∧ ∃ Hs ds d, Same Hs H ∧ RpL K Hs vs ds ∧ m ds = some d ∧ PoV K Hs H d Q
def spF (K : PySem.W.Frag) (n : Nat) (m : List D → Option (List D)) : Sp := fun vs H Q _ => vs.length = n ∧ ∃ Hs ds d, Same Hs H ∧ RpL K Hs vs ds ∧ m ds = some d ∧ PoF K Hs H d Q
def outV : Fl → Option D
  | .rt d _ => some d
  | .rf d _ => some (.list d)
  | .nx _ => some .none
  | _ => none
def outF : Fl → Option (List D)
  | .rf d _ => some d
  | _ => none
def ent (n : Nat) (ds : List D) : Ev := ds.map SV.sh ++ List.replicate (n - ds.length) SV.un
def mV (G : GF) (n : Nat) (ds : List D) : Option D := (G (ent n ds)).bind outV
def mF (G : GF) (n : Nat) (ds : List D) : Option (List D) := (G (ent n ds)).bind outF
abbrev fp0 : Fp := fun _ => []
theorem rl_ent {K : PySem.W.Frag} {Hs H : Hp} {N : List Str} {vs : List V} {ds : List D} (sm : Same Hs H) (r : RpL K Hs vs ds) (hl : vs.length ≤ N.length) : Rl K Hs H (ent N.length ds) (start N vs) fp0 where
  len := by simp [ent, L2.start, r.len]
  pl := fun i s h => by
    unfold ent at h
    unfold L2.start
    by_cases hi : i < ds.length
    · rw [List.getElem?_append_left (by simpa using hi)] at h
      rw [List.getElem?_append_left (by simpa [r.len] using hi)]
      rw [List.getElem?_map] at h ⊢
      rw [List.getElem?_eq_getElem hi] at h
      injection h with h; subst h
      obtain ⟨v, e1, e2⟩ := r.get (List.getElem?_eq_getElem hi)
      exact ⟨some v, by rw [e1]; rfl, rfl, v, rfl, e2⟩
    · rw [List.getElem?_append_right (by simpa using hi)] at h
      have hs : s = .un := by
        rw [List.getElem?_replicate] at h
        split at h
        · injection h with h; exact h.symm
        · cases h
      have hlt := (List.getElem?_eq_some_iff.mp h).1
      subst hs
      refine ⟨none, ?_, rfl⟩
      rw [List.getElem?_append_right (by simpa [r.len] using hi), List.getElem?_replicate, if_pos]
      simp [r.len] at hlt ⊢
      omega
  out := fun _ _ => rfl
  nd := fun _ => List.nodup_nil
  ap := fun _ _ _ h => (List.not_mem_nil h).elim
  fr := fun _ _ h => (List.not_mem_nil h).elim
  sub := sm
theorem grow_of {Hs H Hs' H' : Hp} {fp' : Fp} (a : Adv fp0 Hs H fp' Hs' H') (s : Same Hs' H') : Grow Hs H Hs' H' := ⟨a.same, fun b o h => a.keep b o h fun _ m => List.not_mem_nil m, s, fun b o h => (a.fre b o h).imp_right fun z => z.elim id fun ⟨_, m⟩ => (List.not_mem_nil m).elim⟩
section
variable {P : Program} {w : World} {K : PySem.W.Frag} {mg : Str → Option Value} {base : Heap}
theorem okV {x q : Str} {st : Stmt} {f : Addr} {fd : FuncData} {N ps : List Str} {k : Nat} {G : GF} (F : Fun K x q st f fd) (S : FnScope N ps (defScope st))
    (hb : ∀ (cdv : Value) (A : Around) (o : List Env) (s : Shared) (H : Hp) (E : XK), A.guards = some [] → Room k (A.deeper (envOfC q (defScope st) s.heap.objs.size f cdv)) → BJ (cxOf CX0 P w K mg base N q (defScope st) f cdv A o s H E).nox [] (defBody st) G) :
    FnG P w K mg base CX0 (k + 1) f fd ps (spV K ps.length (mV G N.length)) := by
  refine okG F S (fun vs H Q E h => h.1) (fun cdv A o s H vs Q E g hr h => ?_)
  obtain ⟨hl, Hs, ds, d, sm, r, e, q⟩ := h
  have hN : ps.length ≤ N.length := by have := congrArg List.length S.pre; rw [List.length_take] at this; omega
  refine ⟨_, pss_wb, ?_⟩
  obtain ⟨z, e1, e⟩ := bind2 (γ := Unit) e
  refine hb cdv A o s H E g hr _ _ fp0 Hs H z _ (rl_ent sm r (by rw [hl]; exact hN)) e1 ?_
  cases z with
  | nx e' => injection e with e; subst e; exact fun σ' fp' Hs' H' rl' a' _ => q Hs' H' .non (grow_of a' rl'.sub) .n
  | rt d' e' => injection e with e; subst e; exact fun v σ' fp' Hs' H' rl' a' _ rv => q Hs' H' v (grow_of a' rl'.sub) rv
  | ro d' e' => cases e
  | rf d' e' =>
    injection e with e; subst e
    intro p vs σ' fp' Hs' H' rl' a' _ h1 h2 h3 h4 h5
    have n : H p = none := h5.elim (fun ⟨_, m⟩ => (List.not_mem_nil m).elim) id
    exact q.f Hs' H' p vs (grow_of a' rl'.sub) n h3 h1 h2
  | bk e' => cases e
  | ct e' => cases e
theorem okF {x q : Str} {st : Stmt} {f : Addr} {fd : FuncData} {N ps : List Str} {k : Nat} {G : GF} (F : Fun K x q st f fd) (S : FnScope N ps (defScope st))
    (hb : ∀ (cdv : Value) (A : Around) (o : List Env) (s : Shared) (H : Hp) (E : XK), A.guards = some [] → Room k (A.deeper (envOfC q (defScope st) s.heap.objs.size f cdv)) → BJ (cxOf CX0 P w K mg base N q (defScope st) f cdv A o s H E).nox [] (defBody st) G) :
    FnG P w K mg base CX0 (k + 1) f fd ps (spF K ps.length (mF G N.length)) := by
  refine okG F S (fun vs H Q E h => h.1) (fun cdv A o s H vs Q E g hr h => ?_)
  obtain ⟨hl, Hs, ds, d, sm, r, e, q⟩ := h
  have hN : ps.length ≤ N.length := by have := congrArg List.length S.pre; rw [List.length_take] at this; omega
  refine ⟨_, pss_wb, ?_⟩
  obtain ⟨z, e1, e⟩ := bind2 (γ := Unit) e
  refine hb cdv A o s H E g hr _ _ fp0 Hs H z _ (rl_ent sm r (by rw [hl]; exact hN)) e1 ?_
  cases z with
  | nx e' => cases e
  | rt d' e' => cases e
  | ro d' e' => cases e
  | rf d' e' =>
    injection e with e; subst e
    intro p vs σ' fp' Hs' H' rl' a' _ h1 h2 h3 h4 h5
    have n : H p = none := h5.elim (fun ⟨_, m⟩ => (List.not_mem_nil m).elim) id
    exact q Hs' H' p vs (grow_of a' rl'.sub) n h3 h1 h2
  | bk e' => cases e
  | ct e' => cases e
end
section
variable {X : Cx} {CX : CXT} {k : Nat} {f : Addr} {fd : FuncData} {ps : List Str} {x : Str} {p pos : Pos} {e : Expr} {es : List Expr} {fl : FL} {m : List D → Option D} {ml : List D → Option (List D)} {n : Nat} {E : XK}
theorem pv_call (F : FnG X.prog X.w X.K X.mg X.base CX k f fd ps (spV X.K n m)) (g : X.A.guards = some []) (hr : Room k X.A) (hg : Gl X x) (hm : X.mg x = some (.ref f)) (hk : PySem.W.keepIn X.K (.ref f) = true) (hb : Binds X.K fd ps []) (hx : Passes CX X E) (hn : (e :: es).length = n)
    (ha : PAV X (e :: es) fl) (hdb : (x == ("__debug__" : Str)) = false := by decide) (he : starEach (e :: es) X.env = (false, eval e X.env) :: starEach es X.env := by rfl) (hpl : (backTo pos (starEach es X.env)).any (·.1) = false := by rfl) :
    PV X (.Call (.Name x p) (e :: es) [] pos) (fCall (fun ds => if ds.length = n then m ds else none) fl) := by
  intro env σ fp Hs H d Q rl e q
  obtain ⟨ds, e1, e⟩ := bind2 (γ := Unit) e
  split at e <;> try contradiction
  rename_i hl
  refine we_of (pe_callG F g hr hg hm hk hb .nil hx pa_wa hdb he hpl) (ha env σ fp Hs H ds _ rl e1 fun Hs1 H1 vs g1 r1 => ?_)
  show spV X.K n m (vs ++ []) H1 Q E
  rw [List.append_nil]
  exact ⟨by rw [r1.len]; exact hl, Hs1, ds, d, g1.sub, r1, e, q.go g1⟩
theorem fv_call (F : FnG X.prog X.w X.K X.mg X.base CX k f fd ps (spF X.K n ml)) (g : X.A.guards = some []) (hr : Room k X.A) (hg : Gl X x) (hm : X.mg x = some (.ref f)) (hk : PySem.W.keepIn X.K (.ref f) = true) (hb : Binds X.K fd ps []) (hx : Passes CX X E) (hn : (e :: es).length = n)
    (ha : PAV X (e :: es) fl) (hdb : (x == ("__debug__" : Str)) = false := by decide) (he : starEach (e :: es) X.env = (false, eval e X.env) :: starEach es X.env := by rfl) (hpl : (backTo pos (starEach es X.env)).any (·.1) = false := by rfl) :
    FV X (.Call (.Name x p) (e :: es) [] pos) (fCallF (fun ds => if ds.length = n then ml ds else none) fl) := by
  intro env σ fp Hs H d Q rl e q
  obtain ⟨ds, e1, e⟩ := bind2 (γ := Unit) e
  split at e <;> try contradiction
  rename_i hl
  refine we_of (pe_callG F g hr hg hm hk hb .nil hx pa_wa hdb he hpl) (ha env σ fp Hs H ds _ rl e1 fun Hs1 H1 vs g1 r1 => ?_)
  show spF X.K n ml (vs ++ []) H1 Q E
  rw [List.append_nil]
  exact ⟨by rw [r1.len]; exact hl, Hs1, ds, d, g1.sub, r1, e, q.go g1⟩
end
end TL
set_option Elab.async false
set_option linter.all false
set_option maxRecDepth 100000
namespace TL
open PySem PySem.Spec L2
open PyProof.Rows hiding St
abbrev EF := Ev → Option (D × Ev)
abbrev EL := Ev → Option (List D × Ev)
abbrev EB := Ev → Option (Bool × Ev)
def EV (X : Cx) (e : Expr) (F : EF) : Prop := ∀ (env : Ev) (σ : L2.St) (fp : Fp) (Hs H : Hp) (d : D) (env' : Ev) (Q : VK), Rl X.K Hs H env σ fp → F env = some (d, env') →
  (∀ Hs' H' v, Rl X.K Hs' H' env' σ fp → Adv fp Hs H fp Hs' H' → Rp X.K Hs' v d → Q v H') → WE X e σ H Q
def EVF (X : Cx) (e : Expr) (F : EL) : Prop := ∀ (env : Ev) (σ : L2.St) (fp : Fp) (Hs H : Hp) (d : List D) (env' : Ev) (Q : VK), Rl X.K Hs H env σ fp → F env = some (d, env') →
  (∀ Hs' H' p vs, Rl X.K Hs' H' env' σ fp → Adv fp Hs H fp Hs' H' → H p = none → Hs' p = none → H' p = some (.lst vs) → RpL X.K Hs' vs d → Q (.ref p) H') → WE X e σ H Q
def ETV (X : Cx) (e : Expr) (F : EB) : Prop := ∀ (env : Ev) (σ : L2.St) (fp : Fp) (Hs H : Hp) (d : Bool) (env' : Ev) (Q : Bool → Hp → Prop), Rl X.K Hs H env σ fp → F env = some (d, env') →
  (∀ Hs' H', Rl X.K Hs' H' env' σ fp → Adv fp Hs H fp Hs' H' → Q d H') → WT X e σ H Q
def EWV (X : Cx) (e : Expr) (F : EB) : Prop := ∀ (env : Ev) (σ : L2.St) (fp : Fp) (Hs H : Hp) (d : Bool) (env' : Ev) (Q : Bool → Hp → Prop), Rl X.K Hs H env σ fp → F env = some (d, env') →
  (∀ Hs' H', Rl X.K Hs' H' env' σ fp → Adv fp Hs H fp Hs' H' → Q d H') → WW X e σ H Q
def EAV (X : Cx) (es : List Expr) (F : EL) : Prop := ∀ (env : Ev) (σ : L2.St) (fp : Fp) (Hs H : Hp) (d : List D) (env' : Ev) (Q : List V → Hp → Prop), Rl X.K Hs H env σ fp → F env = some (d, env') →
  (∀ Hs' H' vs, Rl X.K Hs' H' env' σ fp → Adv fp Hs H fp Hs' H' → RpL X.K Hs' vs d → Q vs H') → WA X es σ H Q
def pur {α : Type} (f : Ev → Option α) : Ev → Option (α × Ev) := fun e => (f e).map fun d => (d, e)
def e2 (g : D → D → Option D) (a b : EF) : EF := fun e => (a e).bind fun x => (b x.2).bind fun y => (g x.1 y.1).map fun d => (d, y.2)
def eB (a : EF) : EB := fun e => (a e).bind fun x => (asB x.1).map fun d => (d, x.2)
def eNot (a : EB) : EB := fun e => (a e).map fun x => (!x.1, x.2)
def eAnd (a b : EB) : EB := fun e => (a e).bind fun x => if x.1 then b x.2 else some (false, x.2)
def eOr (a b : EB) : EB := fun e => (a e).bind fun x => if x.1 then some (true, x.2) else b x.2
def eIf (c : EB) (a b : EF) : EF := fun e => (c e).bind fun x => if x.1 then a x.2 else b x.2
def eTold (a : EL) : EF := fun e => (a e).map fun x => (.list x.1, x.2)
def eNil : EL := fun e => some ([], e)
def eCons (a : EF) (r : EL) : EL := fun e => (a e).bind fun x => (r x.2).bind fun y => some (x.1 :: y.1, y.2)
def eTup (a : EL) : EF := fun e => (a e).bind fun x => if x.1.length ≤ LN then some (.tuple x.1, x.2) else none
def eLst (a : EL) : EL := fun e => (a e).bind fun x => if x.1.length ≤ LN then some x else none
def eCall (g : List D → Option D) (a : EL) : EF := fun e => (a e).bind fun x => (g x.1).map fun d => (d, x.2)
def eCallF (g : List D → Option (List D)) (a : EL) : EL := fun e => (a e).bind fun x => (g x.1).map fun d => (d, x.2)

section
variable {K : PySem.W.Frag} {Hs H : Hp} {e : Ev} {σ : L2.St} {fp : Fp}
theorem Rl.tell (r : Rl K Hs H e σ fp) {p : Addr} {o : HO} (n : ∀ j, p ∉ fp j) (n' : Hs p = none) (h : H p = some o) : Rl K (upd Hs p o) H e σ fp where
  len := r.len
  pl := fun i s q => let ⟨o', q1, q2⟩ := r.pl i s q; ⟨o', q1, q2.keep (same_new n') fun _ _ _ h => h⟩
  out := r.out
  nd := r.nd
  ap := r.ap
  fr := fun i a m => by rw [upd_ne (fun z => by subst z; exact n i m)]; exact r.fr i a m
  sub := fun b u q => by
    by_cases z : b = p
    · subst z; rw [upd_same] at q; cases q; exact h
    · rw [upd_ne z] at q; exact r.sub b u q
end
theorem Adv.tell {fp : Fp} {Hs H Hs' H' : Hp} {p : Addr} {o : HO} (a : Adv fp Hs H fp Hs' H') (n : H p = none) (n' : Hs' p = none) : Adv fp Hs H fp (upd Hs' p o) H' := ⟨a.same.trans (same_new n'), a.keep, a.trk, a.own, fun b u q => by
  by_cases z : b = p
  · subst z; exact .inr (.inl n)
  · rw [upd_ne z] at q; exact a.fre b u q⟩

section
variable {X : Cx} {a b c e : Expr} {es : List Expr} {pos : Pos} {f : FD} {fl : FL} {fb : FB} {F G : EF} {FL' GL : EL} {FBa FBb : EB}
theorem PV.ef (h : PV X a f) : EV X a (pur f) := by
  intro env σ fp Hs H d env' Q rl e q
  unfold pur at e
  cases e1 : f env with
  | none => rw [e1] at e; cases e
  | some x => rw [e1] at e; injection e with e; injection e with e2 e3; subst e2 e3; exact h env σ fp Hs H _ Q rl e1 fun Hs' H' v g r => q Hs' H' v (g.rl rl) g.adv r
theorem FV.ef (h : FV X a fl) : EVF X a (pur fl) := by
  intro env σ fp Hs H d env' Q rl e q
  unfold pur at e
  cases e1 : fl env with
  | none => rw [e1] at e; cases e
  | some x => rw [e1] at e; injection e with e; injection e with e2 e3; subst e2 e3; exact h env σ fp Hs H _ Q rl e1 fun Hs' H' p vs g n n' k r => q Hs' H' p vs (g.rl rl) g.adv n n' k r
theorem PTV.ef (h : PTV X a fb) : ETV X a (pur fb) := by
  intro env σ fp Hs H d env' Q rl e q
  unfold pur at e
  cases e1 : fb env with
  | none => rw [e1] at e; cases e
  | some x => rw [e1] at e; injection e with e; injection e with e2 e3; subst e2 e3; exact h env σ fp Hs H _ Q rl e1 fun Hs' H' g => q Hs' H' (g.rl rl) g.adv
theorem PAV.ef (h : PAV X es fl) : EAV X es (pur fl) := by
  intro env σ fp Hs H d env' Q rl e q
  unfold pur at e
  cases e1 : fl env with
  | none => rw [e1] at e; cases e
  | some x => rw [e1] at e; injection e with e; injection e with e2 e3; subst e2 e3; exact h env σ fp Hs H _ Q rl e1 fun Hs' H' vs g r => q Hs' H' vs (g.rl rl) g.adv r
theorem EVF.v (h : EVF X a FL') : EV X a (eTold FL') := by
  intro env σ fp Hs H d env' Q rl e q
  unfold eTold at e
  cases e1 : FL' env with
  | none => rw [e1] at e; cases e
  | some x =>
    rw [e1] at e; injection e with e; injection e with e2 e3; subst e2 e3
    exact h env σ fp Hs H _ _ Q rl e1 fun Hs' H' p vs r a n n' k rr => q (upd Hs' p (.lst vs)) H' (.ref p) (r.tell (rl.free n) n' k) (a.tell n n') (.l (.inl (.inl upd_same)) (rr.sm (same_new n')))
theorem prod2 {α β γ : Type} {o : Option α} {k : α → γ} {x : γ} (h : o.map k = some x) : ∃ y, o = some y ∧ k y = x := by
  cases o with
  | none => cases h
  | some y => exact ⟨y, rfl, by injection h⟩
theorem ev_op {op : Operator} {k : D → D → Option D} (ho : OpD X (binaryOp op) k) (ha : EV X a F) (hb : EV X b G) : EV X (.BinOp a op b pos) (e2 k F G) := by
  intro env σ fp Hs H d env' Q rl e q
  obtain ⟨⟨x, en1⟩, e1, e⟩ := bind2 (γ := Unit) e
  obtain ⟨⟨y, en2⟩, e2, e⟩ := bind2 (γ := Unit) e
  obtain ⟨z, e3, e⟩ := prod2 (β := Unit) e
  injection e with ea eb; subst ea eb
  intro pins s I
  refine wpAny_BinOp (thn (ha env σ fp Hs H x en1 _ rl e1 (fun Hs1 H1 v r1 a1 k1 => hb en1 σ fp Hs1 H1 y en2 (fun u H2 => ∃ Hs2, Rl X.K Hs2 H2 en2 σ fp ∧ Adv fp Hs H fp Hs2 H2 ∧ Rp X.K Hs2 v x ∧ Rp X.K Hs2 u y) r1 e2 (fun Hs2 H2 u r2 a2 k2 => ⟨Hs2, r2, a1.trans a2, k1.sm a2.same, k2⟩)) pins s I) ?_)
  rintro v s1 ⟨xv, H1, I1, rv, q1⟩
  refine thn (q1 pins s1 I1) ?_
  rintro u s2 ⟨yv, H2, I2, ru, Hs2, r2, a2, k1, k2⟩
  exact ho pins s2 σ Hs2 H2 xv yv v u x y _ Q I2 r2.sub rv ru k1 k2 e3 fun Hs3 H3 w g k3 => q Hs3 H3 w (g.rl r2) (a2.trans g.adv) k3
theorem ev_ix (ha : EV X a F) (hb : EV X b G) (hs : PlainIx b) : EV X (.Subscript a b pos) (e2 ixD F G) := by
  intro env σ fp Hs H d env' Q rl e q
  obtain ⟨⟨x, en1⟩, e1, e⟩ := bind2 (γ := Unit) e
  obtain ⟨⟨y, en2⟩, e2, e⟩ := bind2 (γ := Unit) e
  obtain ⟨z, e3, e⟩ := prod2 (β := Unit) e
  injection e with ea eb; subst ea eb
  intro pins s I
  refine Subscript_ (thn (ha env σ fp Hs H x en1 _ rl e1 (fun Hs1 H1 v r1 a1 k1 => hb en1 σ fp Hs1 H1 y en2 (fun u H2 => ∃ Hs2, Rl X.K Hs2 H2 en2 σ fp ∧ Adv fp Hs H fp Hs2 H2 ∧ Rp X.K Hs2 v x ∧ Rp X.K Hs2 u y) r1 e2 (fun Hs2 H2 u r2 a2 k2 => ⟨Hs2, r2, a1.trans a2, k1.sm a2.same, k2⟩)) pins s I) ?_)
  rintro v s1 ⟨xv, H1, I1, rv, q1⟩
  refine thn (q1 pins s1 I1) ?_
  rintro u s2 ⟨yv, H2, I2, ru, Hs2, r2, a2, k1, k2⟩
  exact xd_ix a b pins s2 σ Hs2 H2 xv yv v u x y _ Q I2 r2.sub rv ru k1 k2 e3 (fun Hs3 H3 w g k3 => q Hs3 H3 w (g.rl r2) (a2.trans g.adv) k3) (hs _ _)
theorem EV.t (ha : EV X a F) (he : ∀ wh, isTrue a X.env wh = (do let v ← wh; standAt a.pos; holding [v] (truthy v)) := by intro _; rfl) : ETV X a (eB F) := by
  intro env σ fp Hs H d env' Q rl e q
  obtain ⟨⟨z, en1⟩, e1, ez0⟩ := bind2 (γ := Unit) e
  obtain ⟨bz, ez1, e9⟩ := prod2 (β := Unit) ez0
  have ez : asB z = some bz := ez1
  have e8 : (bz, en1) = (d, env') := e9
  clear ez0 ez1 e9 e
  injection e8 with ea eb; subst ea eb
  refine wt_of (pt_val pe_we he) (ha env σ fp Hs H z en1 _ rl e1 fun Hs1 H1 v r1 a1 k1 => ?_)
  cases z <;> simp only [asB] at ez <;> try contradiction
  injection ez with ez; subst ez
  cases k1
  exact ⟨_, rfl, q Hs1 H1 r1 a1⟩
theorem etv_not (ha : ETV X a FBa) : ETV X (.UnaryOp .Not a pos) (eNot FBa) := by
  intro env σ fp Hs H d env' Q rl e q
  obtain ⟨⟨z, en1⟩, e1, e⟩ := prod2 (β := Unit) e
  injection e with ea eb; subst ea eb
  exact wt_of (pt_not pt_wt) (ha env σ fp Hs H z _ _ rl e1 q)
theorem EWV.p (h : EWV X e FBa) : ETV X e FBa := fun env σ fp Hs H d env' Q rl e q pins s I => h env σ fp Hs H d env' Q rl e q _ pins s I
variable {rest : List Expr}
theorem eav_nil : EAV X [] eNil := fun env σ fp Hs H d env' Q rl e q => by
  injection e with e; injection e with ea eb; subst ea eb
  exact wa_of pa_nil (q Hs H [] rl Adv.refl .nil)
theorem eav_cons (ha : EV X a F) (hr : EAV X es FL') (hs : starEach (a :: es) X.env = (false, eval a X.env) :: starEach es X.env := by rfl) : EAV X (a :: es) (eCons F FL') := by
  intro env σ fp Hs H d env' Q rl e q
  obtain ⟨⟨x, en1⟩, e1, e⟩ := bind2 (γ := Unit) e
  obtain ⟨⟨xs, en2⟩, e2, e⟩ := bind2 (γ := Unit) e
  injection e with e; injection e with ea eb; subst ea eb
  exact wa_of (pa_cons pe_we pa_wa hs) (ha env σ fp Hs H x en1 _ rl e1 fun Hs1 H1 v r1 a1 k1 => hr en1 σ fp Hs1 H1 xs _ _ r1 e2 fun Hs2 H2 vs r2 a2 k2 => q Hs2 H2 _ r2 (a1.trans a2) (.cons (k1.sm a2.same) k2))
theorem ev_tup {k} (ha : EAV X es FL') : EV X (.Tuple es k pos) (eTup FL') := by
  intro env σ fp Hs H d env' Q rl e q
  obtain ⟨⟨xs, en1⟩, e1, e⟩ := bind2 (γ := Unit) e
  split at e <;> try contradiction
  rename_i hz
  injection e with e; injection e with ea eb; subst ea eb
  refine we_of (pe_tup pa_wa) (ha env σ fp Hs H xs _ _ rl e1 fun Hs1 H1 vs r1 a1 k1 => ⟨by rw [k1.len, ln_eq]; exact hz, fun p hp => ?_⟩)
  have g := Grow.new (o := .tup vs) r1.sub hp
  exact q _ _ _ (g.rl r1) (a1.trans g.adv) (.t (.inl (.inl upd_same)) (k1.sm g.same))
theorem evf_lst (ha : EAV X es FL') : EVF X (.List es pos) (eLst FL') := by
  intro env σ fp Hs H d env' Q rl e q
  obtain ⟨⟨xs, en1⟩, e1, e⟩ := bind2 (γ := Unit) e
  split at e <;> try contradiction
  rename_i hz
  injection e with e; injection e with ea eb; subst ea eb
  refine we_of (pe_lst pa_wa) (ha env σ fp Hs H xs _ _ rl e1 fun Hs1 H1 vs r1 a1 k1 => ⟨by rw [k1.len, ln_eq]; exact hz, fun p hp => ?_⟩)
  have g := Grow.own (o := .lst vs) r1.sub hp
  exact q Hs1 _ p vs (g.rl r1) (a1.trans g.adv) (a1.trk p hp) (r1.sub.free hp) upd_same k1
variable {x : Str} {p : Pos} {id T : String} {k : List D → Option D} {kl : List D → Option (List D)}
theorem ev_callB (hc : ClD X (.builtin id) k) (hg : Gl X x) (hm : X.mg x = none) (hv : bootBuiltins x = some (.builtin id)) (ha : EAV X (a :: es) FL') (hn : x ≠ "__name__" := by decide) (hdb : (x == ("__debug__" : Str)) = false := by decide)
    (he : starEach (a :: es) X.env = (false, eval a X.env) :: starEach es X.env := by rfl) (hpl : (backTo pos (starEach es X.env)).any (·.1) = false := by rfl) : EV X (.Call (.Name x p) (a :: es) [] pos) (eCall k FL') := by
  intro env σ fp Hs H d env' Q rl e q
  obtain ⟨⟨xs, en1⟩, e1, e⟩ := bind2 (γ := Unit) e
  obtain ⟨y, e2, e⟩ := prod2 (β := Unit) e
  injection e with ea eb; subst ea eb
  intro pins s I
  refine wpAny_Call_Name_kw (ld_blt I hg hm hv ?_ hn hdb)
  refine PyProof.Rows.callWith_builtin1 (thn (ha env σ fp Hs H xs en1 (fun vs H1 => ∃ Hs1, Rl X.K Hs1 H1 en1 σ fp ∧ Adv fp Hs H fp Hs1 H1 ∧ RpL X.K Hs1 vs xs) rl e1 (fun Hs1 H1 vs r1 a1 k1 => ⟨Hs1, r1, a1, k1⟩) pos pins s I) ?_) he hpl
  rintro us s1 ⟨vs, H1, I1, rv, Hs1, r1, a1, k1⟩
  exact hc pins s1 σ Hs1 H1 vs us xs y Q I1 r1.sub rv k1 e2 fun Hs2 H2 v g k2 => q Hs2 H2 v (g.rl r1) (a1.trans g.adv) k2
variable {kp : List Nat} {st : Stmt} {bd bd2 : List Stmt} {g h : GF}
def gIfE (c : EB) (g h : GF) : GF := fun e => (c e).bind fun k => if k.1 then g k.2 else h k.2
def gSetE (i : Nat) (f : EF) : GF := fun e => (f e).bind fun d => if i < d.2.length then some (.nx (d.2.set i (.sh d.1))) else none
def gOwnE (i : Nat) (f : EL) : GF := fun e => (f e).bind fun d => if i < d.2.length then some (.nx (d.2.set i (.ow d.1))) else none
def gRetE (f : EF) : GF := fun e => (f e).map fun d => .rt d.1 d.2
def gRetFE (f : EL) : GF := fun e => (f e).map fun d => .rf d.1 d.2
def gAppE (i : Nat) (f : EF) : GF := fun e => (ownE i e).bind fun _ => (f e).bind fun d => (ownE i d.2).bind fun xs => if xs.length < LN then some (.nx (d.2.set i (.ow (xs ++ [d.1])))) else none
def gAsgE (A : AF) (f : EF) : GF := fun e => (f e).bind fun d => (A d.1 d.2).map Fl.nx
def gDropE (f : EF) : GF := fun e => (f e).map fun d => .nx d.2
theorem sj_ifE (hc : ETV X c FBa) (h1 : BJ X kp bd g) (h2 : BJ X kp bd2 h) : SJ X kp (.If c bd bd2 pos) (gIfE FBa g h) := by
  intro env σ fp Hs H r D' rl e q
  obtain ⟨⟨k, en1⟩, e1, e⟩ := bind2 (γ := Unit) e
  refine ws_of (ps_if pt_wt pss_wb pss_wb) (hc env σ fp Hs H k en1 _ rl e1 fun Hs1 H1 r1 a1 => ?_)
  cases k with
  | true => exact iteT (h1 en1 σ fp Hs1 H1 r D' r1 (by simpa using e) (FlK.go r q a1 Kp.refl))
  | false => exact iteF (h2 en1 σ fp Hs1 H1 r D' r1 (by simpa using e) (FlK.go r q a1 Kp.refl))
theorem sj_setE (i : Nat) {x : Str} {p : Pos} (hk : kp.contains i = false) (nd : X.N.Nodup) (hi : X.N[i]? = some x) (hx : Loc X.env.scope x) (ha : EV X a F) (hs : swapsWith a (some (.Name x p)) pos.line X.env = pure false := by rfl) (hf : X.fn x = true ∨ X.env.scope.names.lookup x = some .local := by first | exact .inl rfl | exact .inr rfl | assumption) :
    SJ X kp (.Assign [.Name x p] a pos) (gSetE i F) := by
  intro env σ fp Hs H r D' rl e q
  obtain ⟨⟨d, en1⟩, e1, e⟩ := bind2 (γ := Unit) e
  split at e <;> try contradiction
  rename_i hl
  injection e with e; subst e
  exact ws_of (ps_set nd hi hx pe_we hs hf) (ha env σ fp Hs H d en1 _ rl e1 fun Hs1 H1 v r1 a1 k1 => q _ _ Hs1 H1 (r1.putSh hl k1) (a1.trans Adv.pt0) (Kp.set hk))
theorem sj_dropE {pos'} (ha : EV X a F) (hs : swapsWith a none pos'.line X.env = pure false := by rfl) : SJ X kp (.Expr a pos') (gDropE F) := by
  intro env σ fp Hs H r D' rl e q
  obtain ⟨⟨d, en1⟩, e1, e⟩ := prod2 (β := Unit) e
  subst e
  exact ws_of (ps_expr pe_we hs) (ha env σ fp Hs H d en1 _ rl e1 fun Hs1 H1 v r1 a1 k1 => q σ fp Hs1 H1 r1 a1 Kp.refl)
theorem sj_asgE {tg : Expr} {sl : List Nat} {A : AF} (hk : sl.all (fun i => !kp.contains i) = true) (ha : EV X a F) (ht : TJ X tg sl A) (hs : swapsWithSole [tg] a pos.line X.env = pure false := by rfl) (hw : swappedStores [tg] a X.env = pure none := by rfl)
    (h1 : (assignEach [tg] X.env).map (·.2) = [assign tg X.env] := by rfl) : SJ X kp (.Assign [tg] a pos) (gAsgE A F) := by
  obtain ⟨g1, p1, k1⟩ := ht
  intro env σ fp Hs H r D' rl e q
  obtain ⟨⟨d, en1⟩, e1, e⟩ := bind2 (γ := Unit) e
  obtain ⟨env2, e2, e⟩ := prod2 (β := Unit) e
  subst e
  refine ws_of (ps_asg pe_we p1 hs hw h1) (ha env σ fp Hs H d en1 _ rl e1 fun Hs1 H1 v r1 a1 kk => ?_)
  refine k1 en1 σ fp Hs1 H1 d v env2 _ r1 kk e2 fun σ2 fp2 r2 a2 o2 => q σ2 fp2 Hs1 H1 r2 (a1.trans a2) fun j hj => ?_
  have m : j ∉ sl := fun z => by
    have := List.all_eq_true.mp hk j z
    rw [List.contains_iff_mem.mpr hj] at this; cases this
  exact o2.2 j m
theorem sj_appE (i : Nat) {pos' p apos cpos : Pos} {x : Str} (ha : EV X a F) (hN : X.N[i]? = some x := by rfl) (hv : Vis X.env.scope x := by first | exact Or.inl rfl | exact Or.inr (Or.inl rfl) | exact Or.inr (Or.inr rfl)) (hd : (x == ("__debug__" : Str)) = false := by decide)
    (hcd : (x == ("__classdict__" : Str)) = false := by decide)
    (hbase : attributeBase (.Name x p) "append" X.env (eval (.Name x p) X.env) = eval (.Name x p) X.env := by rfl)
    (hfew : ((backTo cpos (starEach [a] X.env)).all (fun x => !x.1) && (backToKw cpos (keywordEach [] X.env)).all (fun x => x.1.isSome) && decide (([a] : List Expr).length + ([] : List Keyword).length + (if ([] : List Keyword).isEmpty then 0 else 1) < 30)) = true := by rfl)
    (hline : (apos.endLine == cpos.line) = true := by rfl) (hs : starEach [a] X.env = (false, eval a X.env) :: starEach [] X.env := by rfl) (hpl : (backTo cpos (starEach [] X.env)).any (·.1) = false := by rfl)
    (hw : swapsWith (.Call (.Attribute (.Name x p) "append" apos) [a] [] cpos) none pos'.line X.env = pure false := by rfl) :
    SJ X kp (.Expr (.Call (.Attribute (.Name x p) "append" apos) [a] [] cpos) pos') (gAppE i F) := by
  intro env σ fp Hs H r D' rl e q
  obtain ⟨xs0, es0, e⟩ := bind2 (γ := Unit) e
  obtain ⟨⟨d, en1⟩, e1, e⟩ := bind2 (γ := Unit) e
  obtain ⟨xs, es, e⟩ := bind2 (γ := Unit) e
  have es := ownE_eq es
  split at e <;> try contradiction
  rename_i hz
  injection e with e; subst e
  obtain ⟨o0, h1, l, vs0, rfl, h2, h0, _⟩ := rl.pl i _ (ownE_eq es0)
  refine ws_of (ps_expr (pe_bm PySem.F.plainAttrs_list PySem.F.slot_list_append PySem.F.type_list_append mt_append (pe_var hN hv hd hcd) (pa_cons pe_we pa_nil hs) hbase hfew hline hs hpl) hw) ?_
  refine ⟨.ref l, h1, .inl ⟨rfl, _, SqL.of h0⟩, ha env σ fp Hs H d en1 _ rl e1 fun Hs1 H1 v r1 a1 k1 => ?_⟩
  obtain ⟨o, k1', l', vs, rfl, h2, h3, h4⟩ := r1.pl i _ es
  rw [h1] at k1'
  injection k1' with k1'; injection k1' with k1'; injection k1' with k1'; subst k1'
  have mi : l ∈ fp i := by rw [h2]; simp
  refine ⟨l, vs, v, rfl, rfl, h3, by rw [ln_eq, h4.len]; exact hz, ?_⟩
  exact q σ fp Hs1 _ (r1.chg es h1 h2 (vs := vs) (h4.app (.one k1))) (a1.trans (adv_chg mi)) Kp.refl
end
end TL
set_option Elab.async false
set_option linter.all false
set_option maxRecDepth 100000
namespace TL
open PySem PySem.Spec L2
open PyProof.Rows hiding St
inductive Ag where
  | val (d : D)
  | slot (i : Nat)
  | tmp (xs : List D)
def AgR (K : PySem.W.Frag) (Hs H : Hp) (σ : L2.St) (fp : Fp) (P : Option Addr) : Ag → V → Prop
  | .val d, v => Rp K Hs v d
  | .slot i, v => σ[i]? = some (some v)
  | .tmp xs, v => ∃ p vs, P = some p ∧ v = .ref p ∧ H p = some (.lst vs) ∧ RpL K Hs vs xs ∧ Hs p = none ∧ ∀ j, p ∉ fp j
inductive AgsR (K : PySem.W.Frag) (Hs H : Hp) (σ : L2.St) (fp : Fp) (P : Option Addr) : List Ag → List V → Prop
  | nil : AgsR K Hs H σ fp P [] []
  | cons {a : Ag} {v : V} {as : List Ag} {vs : List V} (h : AgR K Hs H σ fp P a v) (r : AgsR K Hs H σ fp P as vs) : AgsR K Hs H σ fp P (a :: as) (v :: vs)
def Ag.isTmp : Ag → Bool
  | .tmp _ => true
  | _ => false
abbrev EG := Ev → Option (List Ag × Ev)
def AJ (X : Cx) (es : List Expr) (F : EG) : Prop := ∀ (env : Ev) (σ : L2.St) (fp : Fp) (Hs H : Hp) (d : List Ag) (env' : Ev) (Q : List V → Hp → Prop), Rl X.K Hs H env σ fp → F env = some (d, env') →
  (∀ Hs' H' vs P, Rl X.K Hs' H' env' σ fp → Adv fp Hs H fp Hs' H' → (∀ p, P = some p → H p = none ∧ ∃ o, H' p = some o) → (d.any Ag.isTmp = false → P = none) → AgsR X.K Hs' H' σ fp P d vs → Q vs H') → WA X es σ H Q
def agNil : EG := fun e => some ([], e)
def agVal (f : EF) (r : EG) : EG := fun e => (f e).bind fun x => (r x.2).bind fun y => some (.val x.1 :: y.1, y.2)
def agSlot (i : Nat) (r : EG) : EG := fun e => (ownE i e).bind fun _ => (r e).bind fun y => some (.slot i :: y.1, y.2)
def agTmp (f : EL) (r : EG) : EG := fun e => (f e).bind fun x => (r x.2).bind fun y => if y.1.any Ag.isTmp = false then some (.tmp x.1 :: y.1, y.2) else none
section
variable {K : PySem.W.Frag} {Hs H Hs' H' : Hp} {σ : L2.St} {fp : Fp} {P P' : Option Addr}
theorem Adv.free {p : Addr} {o : HO} (a : Adv fp Hs H fp Hs' H') (h : H p = some o) (h' : Hs p = none) (n : ∀ j, p ∉ fp j) : H' p = some o ∧ Hs' p = none := by
  refine ⟨a.keep p o h n, ?_⟩
  cases z : Hs' p with
  | none => rfl
  | some u =>
    rcases a.fre p u z with ⟨o', q⟩ | q | ⟨j, q⟩
    · rw [h'] at q; cases q
    · rw [h] at q; cases q
    · exact (n j q).elim
theorem AgR.go {a : Ag} {v : V} (h : AgR K Hs H σ fp P a v) (d : Adv fp Hs H fp Hs' H') : AgR K Hs' H' σ fp P a v := by
  cases a with
  | val d' => exact (show Rp K Hs v d' from h).sm d.same
  | slot i => exact h
  | tmp xs =>
    obtain ⟨p, vs, h1, h2, h3, h4, h5, h6⟩ := h
    obtain ⟨z1, z2⟩ := d.free h3 h5 h6
    exact ⟨p, vs, h1, h2, z1, h4.sm d.same, z2, h6⟩
theorem AgsR.len : ∀ {as : List Ag} {vs : List V}, AgsR K Hs H σ fp P as vs → vs.length = as.length
  | _, _, .nil => rfl
  | _, _, .cons _ r => by simp [r.len]
theorem AgsR.get : ∀ {as : List Ag} {vs : List V} {k : Nat} {a : Ag}, AgsR K Hs H σ fp P as vs → as[k]? = some a → ∃ v, vs[k]? = some v ∧ AgR K Hs H σ fp P a v
  | _, _, _, _, .nil, e => by simp at e
  | _, _, 0, _, .cons h r, e => by simp only [List.getElem?_cons_zero, Option.some.injEq] at e; subst e; exact ⟨_, rfl, h⟩
  | _, _, k + 1, _, .cons h r, e => by simpa using AgsR.get r (by simpa using e)
theorem AgsR.noP : ∀ {as : List Ag} {vs : List V}, AgsR K Hs H σ fp P as vs → as.any Ag.isTmp = false → AgsR K Hs H σ fp P' as vs
  | _, _, .nil, _ => .nil
  | a :: _, _, .cons h r, e => by
    rw [List.any_cons, Bool.or_eq_false_iff] at e
    refine .cons ?_ (r.noP e.2)
    cases a with
    | val d => exact h
    | slot i => exact h
    | tmp xs => simp [Ag.isTmp] at e
end
section
variable {X : Cx} {a : Expr} {es : List Expr} {F : EF} {FL' : EL} {R : EG}
theorem aj_nil : AJ X [] agNil := fun env σ fp Hs H d env' Q rl e q => by
  injection e with e; injection e with ea eb; subst ea eb
  exact wa_of pa_nil (q Hs H [] none rl Adv.refl (fun _ h => by cases h) (fun _ => rfl) .nil)
theorem aj_val (ha : EV X a F) (hr : AJ X es R) (hs : starEach (a :: es) X.env = (false, eval a X.env) :: starEach es X.env := by rfl) : AJ X (a :: es) (agVal F R) := by
  intro env σ fp Hs H d env' Q rl e q
  obtain ⟨⟨x, en1⟩, e1, e⟩ := bind2 (γ := Unit) e
  obtain ⟨⟨xs, en2⟩, e2, e⟩ := bind2 (γ := Unit) e
  injection e with e; injection e with ea eb; subst ea eb
  refine wa_of (pa_cons pe_we pa_wa hs) (ha env σ fp Hs H x en1 _ rl e1 fun Hs1 H1 v r1 a1 k1 => hr en1 σ fp Hs1 H1 xs en2 _ r1 e2 fun Hs2 H2 vs P r2 a2 p1 p2 k2 => ?_)
  exact q Hs2 H2 _ P r2 (a1.trans a2) (fun p h => ⟨a1.trk p (p1 p h).1, (p1 p h).2⟩) (fun h => p2 (by simpa [Ag.isTmp] using h)) (.cons (show Rp X.K Hs2 v x from k1.sm a2.same) k2)
theorem aj_slot (i : Nat) {x : Str} {p : Pos} (hr : AJ X es R) (hN : X.N[i]? = some x := by rfl) (hv : Vis X.env.scope x := by first | exact Or.inl rfl | exact Or.inr (Or.inl rfl) | exact Or.inr (Or.inr rfl)) (hd : (x == ("__debug__" : Str)) = false := by decide)
    (hcd : (x == ("__classdict__" : Str)) = false := by decide) (hs : starEach (.Name x p :: es) X.env = (false, eval (.Name x p) X.env) :: starEach es X.env := by rfl) : AJ X (.Name x p :: es) (agSlot i R) := by
  intro env σ fp Hs H d env' Q rl e q
  obtain ⟨x0, e1, e⟩ := bind2 (γ := Unit) e
  obtain ⟨⟨xs, en2⟩, e2, e⟩ := bind2 (γ := Unit) e
  injection e with e; injection e with ea eb; subst ea eb
  obtain ⟨o, h1, l, vs0, rfl, _⟩ := rl.pl i _ (ownE_eq e1)
  refine wa_of (pa_cons (pe_var hN hv hd hcd) pa_wa hs) ⟨.ref l, h1, hr env σ fp Hs H xs en2 _ rl e2 fun Hs2 H2 vs P r2 a2 p1 p2 k2 => ?_⟩
  exact q Hs2 H2 _ P r2 a2 p1 (fun h => p2 (by simpa [Ag.isTmp] using h)) (.cons (show σ[i]? = some (some (.ref l)) from h1) k2)
theorem aj_tmp (ha : EVF X a FL') (hr : AJ X es R) (hs : starEach (a :: es) X.env = (false, eval a X.env) :: starEach es X.env := by rfl) : AJ X (a :: es) (agTmp FL' R) := by
  intro env σ fp Hs H d env' Q rl e q
  obtain ⟨⟨x, en1⟩, e1, e⟩ := bind2 (γ := Unit) e
  obtain ⟨⟨xs, en2⟩, e2, e⟩ := bind2 (γ := Unit) e
  split at e <;> try contradiction
  rename_i ht
  injection e with e; injection e with ea eb; subst ea eb
  refine wa_of (pa_cons pe_we pa_wa hs) (ha env σ fp Hs H x en1 _ rl e1 fun Hs1 H1 p vs0 r1 a1 n n' k0 k1 => hr en1 σ fp Hs1 H1 xs en2 _ r1 e2 fun Hs2 H2 vs P r2 a2 p1 p2 k2 => ?_)
  have nf := rl.free n
  obtain ⟨z1, z2⟩ := a2.free k0 n' nf
  exact q Hs2 H2 _ (some p) r2 (a1.trans a2) (fun p' h => by injection h with h; subst h; exact ⟨n, _, z1⟩) (fun h => by simp [Ag.isTmp] at h) (.cons ⟨p, vs0, rfl, rfl, z1, k1.sm a2.same, z2, nf⟩ (k2.noP ht))
end
def toSV (e : Ev) : Ag → SV
  | .val d => .sh d
  | .slot i => (e[i]?).getD .un
  | .tmp xs => .ow xs
def agFp (fp : Fp) (P : Option Addr) (as : List Ag) : Fp := fun k => match as[k]? with
  | some (.slot i) => fp i
  | some (.tmp _) => P.toList
  | _ => []
def apart : Ag → Ag → Bool
  | .slot i, .slot j => i != j
  | .tmp _, .tmp _ => false
  | _, _ => true
def okAgs (as : List Ag) : Bool := (List.range as.length).all fun k => (List.range as.length).all fun l => k == l || (match as[k]?, as[l]? with
  | some a, some b => apart a b
  | _, _ => true)
def isOw : SV → Bool
  | .ow _ => true
  | _ => false
def okSlots (as : List Ag) (e : Ev) : Bool := as.all fun a => match a with
  | .slot i => (match e[i]? with | some s => isOw s | none => false)
  | _ => true
def backE : List Ag → List SV → Ev → Ev
  | .slot i :: as, s :: ss, e => backE as ss (e.set i s)
  | .val _ :: as, _ :: ss, e => backE as ss e
  | .tmp _ :: as, _ :: ss, e => backE as ss e
  | _, _, e => e
theorem backE_len : ∀ (as : List Ag) (ss : List SV) (e : Ev), (backE as ss e).length = e.length
  | [], _, _ => by simp [backE]
  | .slot i :: as, [], e => rfl
  | .val _ :: as, [], e => rfl
  | .tmp _ :: as, [], e => rfl
  | .slot i :: as, s :: ss, e => by rw [backE, backE_len as ss]; simp
  | .val _ :: as, _ :: ss, e => by rw [backE, backE_len as ss]
  | .tmp _ :: as, _ :: ss, e => by rw [backE, backE_len as ss]
theorem backE_get : ∀ (as : List Ag) (ss : List SV) (e : Ev) (j : Nat) (s : SV), ss.length = as.length → (backE as ss e)[j]? = some s →
    (∃ k : Nat, as[k]? = some (Ag.slot j) ∧ ss[k]? = some s) ∨ ((∀ k : Nat, as[k]? ≠ some (Ag.slot j)) ∧ e[j]? = some s)
  | [], [], e, j, s, _, h => .inr ⟨fun k h => by simp at h, h⟩
  | [], _ :: _, e, j, s, hl, h => by simp at hl
  | _ :: _, [], e, j, s, hl, h => by simp at hl
  | .slot i :: as, s0 :: ss, e, j, s, hl, h => by
    rcases backE_get as ss (e.set i s0) j s (by simpa using hl) h with ⟨k, h1, h2⟩ | ⟨h1, h2⟩
    · exact .inl ⟨k + 1, by simpa using h1, by simpa using h2⟩
    · by_cases q : j = i
      · subst q
        have hj : j < (e.set j s0).length := (List.getElem?_eq_some_iff.mp h2).1
        rw [List.getElem?_set_self (by simpa using hj)] at h2
        exact .inl ⟨0, rfl, h2⟩
      · rw [List.getElem?_set_ne (Ne.symm q)] at h2
        refine .inr ⟨fun k hk => ?_, h2⟩
        cases k with
        | zero => simp at hk; exact q hk.symm
        | succ k => exact h1 k (by simpa using hk)
  | .val _ :: as, _ :: ss, e, j, s, hl, h => by
    rcases backE_get as ss e j s (by simpa using hl) h with ⟨k, h1, h2⟩ | ⟨h1, h2⟩
    · exact .inl ⟨k + 1, by simpa using h1, by simpa using h2⟩
    · exact .inr ⟨fun k hk => by
        cases k with
        | zero => simp at hk
        | succ k => exact h1 k (by simpa using hk), h2⟩
  | .tmp _ :: as, _ :: ss, e, j, s, hl, h => by
    rcases backE_get as ss e j s (by simpa using hl) h with ⟨k, h1, h2⟩ | ⟨h1, h2⟩
    · exact .inl ⟨k + 1, by simpa using h1, by simpa using h2⟩
    · exact .inr ⟨fun k hk => by
        cases k with
        | zero => simp at hk
        | succ k => exact h1 k (by simpa using hk), h2⟩

theorem ags_in {K : PySem.W.Frag} {Hs H : Hp} {e : Ev} {σ : L2.St} {fp : Fp} {P : Option Addr} {as : List Ag} {vs : List V} (rl : Rl K Hs H e σ fp) (r : AgsR K Hs H σ fp P as vs) (ok : okAgs as = true) (os : okSlots as e = true) :
    Rl K Hs H (as.map (toSV e)) (vs.map some) (agFp fp P as) where
  len := by simp [r.len]
  pl := fun k s h => by
    rw [List.getElem?_map] at h
    cases ea : as[k]? with
    | none => rw [ea] at h; cases h
    | some a =>
      rw [ea] at h; injection h with h; subst h
      obtain ⟨v, e1, e2⟩ := r.get ea
      refine ⟨some v, by rw [List.getElem?_map, e1]; rfl, ?_⟩
      unfold agFp
      rw [ea]
      cases a with
      | val d => exact ⟨rfl, v, rfl, e2⟩
      | slot i =>
        have z := List.all_eq_true.mp os _ (List.mem_of_getElem? ea)
        simp only at z
        cases es : e[i]? with
        | none => rw [es] at z; cases z
        | some s =>
          rw [es] at z
          obtain ⟨o, h1, h2⟩ := rl.pl i s es
          have e2' : σ[i]? = some (some v) := e2
          rw [h1] at e2'; injection e2' with e2'; subst e2'
          show SRep K Hs H ((e[i]?).getD .un) (some v) (fp i)
          rw [es]; exact h2
      | tmp xs =>
        obtain ⟨p, ws, h1, h2, h3, h4, h5, h6⟩ := e2
        subst h1 h2
        exact ⟨p, ws, rfl, rfl, h3, h4⟩
  out := fun k h => by
    unfold agFp
    rw [List.getElem?_eq_none (by simpa using h)]
  nd := fun k => by
    unfold agFp
    split
    · exact rl.nd _
    · cases P <;> simp
    · exact List.nodup_nil
  ap := fun k l a h1 h2 => by
    by_cases q : k = l
    · exact q
    · exfalso
      unfold agFp at h1 h2
      cases e1 : as[k]? with
      | none => rw [e1] at h1; simp at h1
      | some x =>
        cases e2 : as[l]? with
        | none => rw [e2] at h2; simp at h2
        | some y =>
          have hk : k < as.length := (List.getElem?_eq_some_iff.mp e1).1
          have hl : l < as.length := (List.getElem?_eq_some_iff.mp e2).1
          have z := List.all_eq_true.mp (List.all_eq_true.mp ok k (List.mem_range.mpr hk)) l (List.mem_range.mpr hl)
          rw [e1, e2] at z
          simp only [Bool.or_eq_true, beq_iff_eq, q, false_or] at z
          rw [e1] at h1
          rw [e2] at h2
          cases x with
          | val d => exact (List.not_mem_nil h1).elim
          | slot i =>
            cases y with
            | val d => exact (List.not_mem_nil h2).elim
            | slot j =>
              have := rl.ap i j a h1 h2
              subst this; simp [apart] at z
            | tmp xs =>
              obtain ⟨v, _, p, ws, p1, p2, p3, p4, p5, p6⟩ := r.get e2
              subst p1
              have : a = p := by simpa using h2
              subst this; exact p6 i h1
          | tmp xs =>
            cases y with
            | val d => exact (List.not_mem_nil h2).elim
            | slot j =>
              obtain ⟨v, _, p, ws, p1, p2, p3, p4, p5, p6⟩ := r.get e1
              subst p1
              have : a = p := by simpa using h1
              subst this; exact p6 j h2
            | tmp xs => simp [apart] at z
  fr := fun k a h => by
    unfold agFp at h
    cases e1 : as[k]? with
    | none => rw [e1] at h; simp at h
    | some x =>
      rw [e1] at h
      cases x with
      | val d => simp at h
      | slot i => exact rl.fr i a h
      | tmp xs =>
        obtain ⟨v, _, p, ws, p1, p2, p3, p4, p5, p6⟩ := r.get e1
        subst p1
        have : a = p := by simpa using h
        subst this; exact p5
  sub := rl.sub
theorem ags_out {K : PySem.W.Frag} {Hs H Hs' H' : Hp} {e : Ev} {σ : L2.St} {fp : Fp} {P : Option Addr} {as : List Ag} {vs : List V} {ss : List SV} (rl : Rl K Hs H e σ fp) (r : AgsR K Hs H σ fp P as vs) (ok : okAgs as = true) (os : okSlots as e = true)
    (rl' : Rl K Hs' H' ss (vs.map some) (agFp fp P as)) (ad : Adv (agFp fp P as) Hs H (agFp fp P as) Hs' H') (hl : ss.length = as.length) : Rl K Hs' H' (backE as ss e) σ fp where
  len := by rw [backE_len]; exact rl.len
  pl := fun j s h => by
    rcases backE_get as ss e j s hl h with ⟨k, h1, h2⟩ | ⟨h1, h2⟩
    · obtain ⟨o, k1, k2⟩ := rl'.pl k s h2
      obtain ⟨v, e1, e2⟩ := r.get h1
      rw [List.getElem?_map, e1] at k1
      injection k1 with k1; subst k1
      refine ⟨some v, e2, ?_⟩
      have : agFp fp P as k = fp j := by unfold agFp; rw [h1]
      rw [this] at k2; exact k2
    · obtain ⟨o, k1, k2⟩ := rl.pl j s h2
      refine ⟨o, k1, k2.keep ad.same fun a m u hu => ad.keep a u hu fun k mk => ?_⟩
      unfold agFp at mk
      cases e1 : as[k]? with
      | none => rw [e1] at mk; simp at mk
      | some x =>
        rw [e1] at mk
        cases x with
        | val d => simp at mk
        | slot i =>
          have := rl.ap j i a m mk
          subst this; exact h1 k e1
        | tmp xs =>
          obtain ⟨v, _, p, ws, p1, p2, p3, p4, p5, p6⟩ := r.get e1
          subst p1
          have : a = p := by simpa using mk
          subst this; exact p6 j m
  out := fun j h => rl.out j (by rw [backE_len] at h; exact h)
  nd := rl.nd
  ap := rl.ap
  fr := fun j a m => by
    cases z : Hs' a with
    | none => rfl
    | some u =>
      exfalso
      rcases ad.fre a u z with ⟨o', q⟩ | q | ⟨k, q⟩
      · rw [rl.fr j a m] at q; cases q
      · obtain ⟨w, hw⟩ := rl.trk m; rw [q] at hw; cases hw
      · rw [rl'.fr k a q] at z; cases z
  sub := rl'.sub
theorem ags_adv {Hs0 H0 Hs H Hs' H' : Hp} {fp : Fp} {P : Option Addr} {as : List Ag} (a0 : Adv fp Hs0 H0 fp Hs H) (hP : ∀ p, P = some p → H0 p = none ∧ ∃ o, H p = some o) (ad : Adv (agFp fp P as) Hs H (agFp fp P as) Hs' H') : Adv fp Hs0 H0 fp Hs' H' := by
  have key : ∀ k a, a ∈ agFp fp P as k → (∃ j, a ∈ fp j) ∨ H0 a = none := fun k a m => by
    unfold agFp at m
    split at m
    · exact .inl ⟨_, m⟩
    · cases P with
      | none => simp at m
      | some p =>
        have : a = p := by simpa using m
        subst this; exact .inr (hP a rfl).1
    · simp at m
  refine ⟨a0.same.trans ad.same, fun a o h n => ad.keep a o (a0.keep a o h n) fun k m => ?_, fun a h => a0.trk a (ad.trk a h), fun j a m => .inl ⟨j, m⟩, fun a o h => ?_⟩
  · rcases key k a m with ⟨j, q⟩ | q
    · exact n j q
    · rw [h] at q; cases q
  · rcases ad.fre a o h with ⟨o', q⟩ | q | ⟨k, q⟩
    · exact a0.fre a o' q
    · exact .inr (.inl (a0.trk a q))
    · rcases key k a q with q | q
      · exact .inr (.inr q)
      · exact .inr (.inl q)

def spE (K : PySem.W.Frag) (n : Nat) (M : Ev → Option (D × Ev)) : Sp := fun vs H Q _ => vs.length = n ∧ ∃ Hs env fp d env', Rl K Hs H env (vs.map some) fp ∧ M env = some (d, env') ∧
  ∀ Hs' H' v, Rl K Hs' H' env' (vs.map some) fp → Adv fp Hs H fp Hs' H' → Rp K Hs' v d → Q v H'
def spEF (K : PySem.W.Frag) (n : Nat) (M : Ev → Option (List D × Ev)) : Sp := fun vs H Q _ => vs.length = n ∧ ∃ Hs env fp d env', Rl K Hs H env (vs.map some) fp ∧ M env = some (d, env') ∧
  ∀ Hs' H' p ws, Rl K Hs' H' env' (vs.map some) fp → Adv fp Hs H fp Hs' H' → H p = none → Hs' p = none → H' p = some (.lst ws) → RpL K Hs' ws d → Q (.ref p) H'
def parE (a b : SV) : SV := match a with
  | .sh d => .sh d
  | _ => b
def endE (args : Ev) (e : Ev) : Ev := List.zipWith parE args (e.take args.length)
def outE (args : Ev) : Fl → Option (D × Ev)
  | .rt d e => if args.length ≤ e.length then some (d, endE args e) else none
  | .nx e => if args.length ≤ e.length then some (.none, endE args e) else none
  | _ => none
def outEF (args : Ev) : Fl → Option (List D × Ev)
  | .rf d e => if args.length ≤ e.length then some (d, endE args e) else none
  | _ => none
def kpOk (kp : List Nat) (args : Ev) : Bool := (List.range args.length).all fun k => match args[k]? with
  | some (.sh _) => true
  | some (.ow _) => kp.contains k
  | _ => false
def mE (G : GF) (n : Nat) (kp : List Nat) (args : Ev) : Option (D × Ev) := if kpOk kp args = true then (G (args ++ List.replicate (n - args.length) SV.un)).bind (outE args) else none
def mEF (G : GF) (n : Nat) (kp : List Nat) (args : Ev) : Option (List D × Ev) := if kpOk kp args = true then (G (args ++ List.replicate (n - args.length) SV.un)).bind (outEF args) else none
theorem rl_entE {K : PySem.W.Frag} {Hs H : Hp} {N : List Str} {vs : List V} {args : Ev} {fp : Fp} (r : Rl K Hs H args (vs.map some) fp) (hl : vs.length ≤ N.length) : Rl K Hs H (args ++ List.replicate (N.length - args.length) SV.un) (start N vs) fp := by
  have la : args.length = vs.length := by have := r.len; simpa using this.symm
  refine ⟨by simp [L2.start, la], fun i s h => ?_, fun i h => r.out i (by simp at h; omega), r.nd, r.ap, r.fr, r.sub⟩
  unfold L2.start
  by_cases hi : i < args.length
  · rw [List.getElem?_append_left hi] at h
    rw [List.getElem?_append_left (by simpa [← la] using hi)]
    exact r.pl i s h
  · rw [List.getElem?_append_right (by omega)] at h
    have hs : s = .un := by
      rw [List.getElem?_replicate] at h
      split at h
      · injection h with h; exact h.symm
      · cases h
    have hlt := (List.getElem?_eq_some_iff.mp h).1
    subst hs
    refine ⟨none, ?_, ?_⟩
    · rw [List.getElem?_append_right (by simp; omega), List.getElem?_replicate, if_pos]
      simp at hlt ⊢
      omega
    · exact r.out i (by omega)
theorem rl_endE {K : PySem.W.Frag} {Hs H Hs' H' : Hp} {N : List Str} {vs : List V} {args e : Ev} {σ : L2.St} {fp fp' : Fp} {kp : List Nat} (r : Rl K Hs H args (vs.map some) fp) (hl : vs.length ≤ N.length) (hk : kpOk kp args = true) (r' : Rl K Hs' H' e σ fp') (a : Adv fp Hs H fp' Hs' H') (k : Kp kp (start N vs) fp σ fp') (he : args.length ≤ e.length) :
    Rl K Hs' H' (endE args e) (vs.map some) fp := by
  have la : args.length = vs.length := by have := r.len; simpa using this.symm
  have lz : (endE args e).length = args.length := by simp [endE]; omega
  refine ⟨by rw [lz, la]; simp, fun i s h => ?_, fun i h => r.out i (by rw [lz] at h; exact h), r.nd, r.ap, fun i b m => ?_, r'.sub⟩
  · have hi : i < args.length := by
      have := (List.getElem?_eq_some_iff.mp h).1
      rw [lz] at this; exact this
    have hv : i < vs.length := by omega
    have z := List.all_eq_true.mp hk i (List.mem_range.mpr hi)
    rw [List.getElem?_eq_getElem hi] at z
    have hz : (endE args e)[i]? = some (parE args[i] (e[i]'(by omega))) := by
      unfold endE
      rw [List.getElem?_zipWith, List.getElem?_eq_getElem hi, List.getElem?_take_of_lt hi, List.getElem?_eq_getElem (show i < e.length by omega)]
    rw [hz] at h; injection h with h; subst h
    refine ⟨some vs[i], by simp [hv], ?_⟩
    obtain ⟨o, p1, p2⟩ := r.pl i args[i] (List.getElem?_eq_getElem hi)
    have eo : o = some vs[i] := by
      rw [List.getElem?_map, List.getElem?_eq_getElem hv] at p1
      injection p1 with p1; exact p1.symm
    subst eo
    cases es : args[i] with
    | sh d =>
      rw [es] at p2
      exact ⟨p2.1, vs[i], rfl, by obtain ⟨_, v, h1, h2⟩ := p2; injection h1 with h1; subst h1; exact h2.sm a.same⟩
    | ow xs =>
      rw [es] at z
      have mk : i ∈ kp := List.contains_iff_mem.mp z
      obtain ⟨k1, k2⟩ := k i mk
      obtain ⟨o', q1, q2⟩ := r'.pl i (e[i]'(by omega)) (List.getElem?_eq_getElem (by omega))
      have st : (start N vs)[i]? = some (some vs[i]) := by
        unfold L2.start
        rw [List.getElem?_append_left (by simpa using hv), List.getElem?_map, List.getElem?_eq_getElem hv]; rfl
      rw [k1, st] at q1
      injection q1 with q1; subst q1
      rw [k2] at q2
      exact q2
    | un => rw [es] at z; cases z
    | od _ => rw [es] at z; cases z
    | oo _ => rw [es] at z; cases z
    | fn _ => rw [es] at z; cases z
  · by_cases hi : i < args.length
    · have z := List.all_eq_true.mp hk i (List.mem_range.mpr hi)
      rw [List.getElem?_eq_getElem hi] at z
      cases es : args[i] with
      | ow xs =>
        rw [es] at z
        have mk : i ∈ kp := List.contains_iff_mem.mp z
        obtain ⟨k1, k2⟩ := k i mk
        exact r'.fr i b (by rw [k2]; exact m)
      | sh d =>
        obtain ⟨o, p1, p2⟩ := r.pl i args[i] (List.getElem?_eq_getElem hi)
        rw [es] at p2
        rw [p2.1] at m; exact (List.not_mem_nil m).elim
      | un => rw [es] at z; cases z
      | od _ => rw [es] at z; cases z
      | oo _ => rw [es] at z; cases z
      | fn _ => rw [es] at z; cases z
    · rw [r.out i (by omega)] at m; exact (List.not_mem_nil m).elim
theorem adv_endE {fp fp' : Fp} {Hs H Hs' H' : Hp} (a : Adv fp Hs H fp' Hs' H') : Adv fp Hs H fp Hs' H' := ⟨a.same, a.keep, a.trk, fun i b m => .inl ⟨i, m⟩, a.fre⟩
section
variable {P : Program} {w : World} {K : PySem.W.Frag} {mg : Str → Option Value} {base : Heap}
theorem okE {x q : Str} {st : Stmt} {f : Addr} {fd : FuncData} {N ps : List Str} {k : Nat} {kp : List Nat} {G : GF} (F : Fun K x q st f fd) (S : FnScope N ps (defScope st))
    (hb : ∀ (cdv : Value) (A : Around) (o : List Env) (s : Shared) (H : Hp) (E : XK), A.guards = some [] → Room k (A.deeper (envOfC q (defScope st) s.heap.objs.size f cdv)) → BJ (cxOf CX0 P w K mg base N q (defScope st) f cdv A o s H E).nox kp (defBody st) G) :
    FnG P w K mg base CX0 (k + 1) f fd ps (spE K ps.length (mE G N.length kp)) := by
  refine okG F S (fun vs H Q E h => h.1) (fun cdv A o s H vs Q E g hr h => ?_)
  obtain ⟨hl, Hs, args, fp, d, env', rl, e, q⟩ := h
  have hN : vs.length ≤ N.length := by have := congrArg List.length S.pre; rw [List.length_take] at this; omega
  unfold mE at e
  split at e <;> try contradiction
  rename_i hk
  refine ⟨_, pss_wb, ?_⟩
  obtain ⟨z, e1, e⟩ := bind2 (γ := Unit) e
  refine hb cdv A o s H E g hr _ _ fp Hs H z _ (rl_entE rl hN) e1 ?_
  cases z with
  | nx e' =>
    simp only [outE] at e
    split at e <;> try contradiction
    rename_i hz
    injection e with e; injection e with ea eb; subst ea eb
    exact fun σ' fp' Hs' H' rl' a' k' => q Hs' H' .non (rl_endE rl hN hk rl' a' k' hz) (adv_endE a') .n
  | rt d' e' =>
    simp only [outE] at e
    split at e <;> try contradiction
    rename_i hz
    injection e with e; injection e with ea eb; subst ea eb
    exact fun v σ' fp' Hs' H' rl' a' k' rv => q Hs' H' v (rl_endE rl hN hk rl' a' k' hz) (adv_endE a') rv
  | rf d' e' => cases e
  | ro d' e' => cases e
  | bk e' => cases e
  | ct e' => cases e
theorem okEF {x q : Str} {st : Stmt} {f : Addr} {fd : FuncData} {N ps : List Str} {k : Nat} {kp : List Nat} {G : GF} (F : Fun K x q st f fd) (S : FnScope N ps (defScope st))
    (hb : ∀ (cdv : Value) (A : Around) (o : List Env) (s : Shared) (H : Hp) (E : XK), A.guards = some [] → Room k (A.deeper (envOfC q (defScope st) s.heap.objs.size f cdv)) → BJ (cxOf CX0 P w K mg base N q (defScope st) f cdv A o s H E).nox kp (defBody st) G) :
    FnG P w K mg base CX0 (k + 1) f fd ps (spEF K ps.length (mEF G N.length kp)) := by
  refine okG F S (fun vs H Q E h => h.1) (fun cdv A o s H vs Q E g hr h => ?_)
  obtain ⟨hl, Hs, args, fp, d, env', rl, e, q⟩ := h
  have hN : vs.length ≤ N.length := by have := congrArg List.length S.pre; rw [List.length_take] at this; omega
  unfold mEF at e
  split at e <;> try contradiction
  rename_i hk
  refine ⟨_, pss_wb, ?_⟩
  obtain ⟨z, e1, e⟩ := bind2 (γ := Unit) e
  refine hb cdv A o s H E g hr _ _ fp Hs H z _ (rl_entE rl hN) e1 ?_
  cases z with
  | ro d' e' => cases e
  | rf d' e' =>
    simp only [outEF] at e
    split at e <;> try contradiction
    rename_i hz
    injection e with e; injection e with ea eb; subst ea eb
    intro p ws σ' fp' Hs' H' rl' a' k' h1 h2 h3 h4 h5
    have n : H p = none := by
      rcases h5 with ⟨j, m⟩ | n
      · exfalso
        have hj : j < args.length := by
          by_cases q : j < args.length
          · exact q
          · rw [rl.out j (by omega)] at m; exact (List.not_mem_nil m).elim
        have zz := List.all_eq_true.mp hk j (List.mem_range.mpr hj)
        rw [List.getElem?_eq_getElem hj] at zz
        obtain ⟨o, p1, p2⟩ := rl.pl j args[j] (List.getElem?_eq_getElem hj)
        cases es : args[j] with
        | ow xs => rw [es] at zz; exact h4 j (List.contains_iff_mem.mp zz) m
        | sh d => rw [es] at p2; rw [p2.1] at m; exact List.not_mem_nil m
        | un => rw [es] at zz; cases zz
        | od _ => rw [es] at zz; cases zz
        | oo _ => rw [es] at zz; cases zz
        | fn _ => rw [es] at zz; cases zz
      · exact n
    exact q Hs' H' p ws (rl_endE rl hN hk rl' a' k' hz) (adv_endE a') n h3 h1 h2
  | nx e' => cases e
  | rt d' e' => cases e
  | bk e' => cases e
  | ct e' => cases e
end
def eCallG (M : Ev → Option (D × Ev)) (n : Nat) (a : EG) : EF := fun e => (a e).bind fun x => if x.1.length = n ∧ okAgs x.1 = true ∧ okSlots x.1 x.2 = true then (M (x.1.map (toSV x.2))).bind fun r => if r.2.length = n then some (r.1, backE x.1 r.2 x.2) else none else none
def eCallGF (M : Ev → Option (List D × Ev)) (n : Nat) (a : EG) : EL := fun e => (a e).bind fun x => if x.1.length = n ∧ okAgs x.1 = true ∧ okSlots x.1 x.2 = true then (M (x.1.map (toSV x.2))).bind fun r => if r.2.length = n then some (r.1, backE x.1 r.2 x.2) else none else none
section
variable {X : Cx} {CX : CXT} {k : Nat} {f : Addr} {fd : FuncData} {ps : List Str} {x : Str} {p pos : Pos} {e : Expr} {es : List Expr} {R : EG} {M : Ev → Option (D × Ev)} {ML : Ev → Option (List D × Ev)} {n : Nat} {E : XK}
theorem ev_callG (F : FnG X.prog X.w X.K X.mg X.base CX k f fd ps (spE X.K n M)) (g : X.A.guards = some []) (hr : Room k X.A) (hg : Gl X x) (hm : X.mg x = some (.ref f)) (hk : PySem.W.keepIn X.K (.ref f) = true) (hb : Binds X.K fd ps []) (hx : Passes CX X E)
    (ha : AJ X (e :: es) R) (hdb : (x == ("__debug__" : Str)) = false := by decide) (he : starEach (e :: es) X.env = (false, eval e X.env) :: starEach es X.env := by rfl) (hpl : (backTo pos (starEach es X.env)).any (·.1) = false := by rfl) :
    EV X (.Call (.Name x p) (e :: es) [] pos) (eCallG M n R) := by
  intro env σ fp Hs H d env' Q rl e q
  obtain ⟨⟨as, en1⟩, e1, e⟩ := bind2 (γ := Unit) e
  split at e <;> try contradiction
  rename_i hyp
  obtain ⟨h1, h2, h3⟩ := hyp
  obtain ⟨⟨d', ss⟩, e2, e⟩ := bind2 (γ := Unit) e
  split at e <;> try contradiction
  rename_i h4
  injection e with e; injection e with ea eb; subst ea eb
  refine we_of (pe_callG F g hr hg hm hk hb .nil hx pa_wa hdb he hpl) (ha env σ fp Hs H as en1 _ rl e1 fun Hs1 H1 vs P r1 a1 p1 p2 k1 => ?_)
  show spE X.K n M (vs ++ []) H1 Q E
  rw [List.append_nil]
  refine ⟨by rw [k1.len]; exact h1, Hs1, _, _, d', ss, ags_in r1 k1 h2 h3, e2, fun Hs2 H2 v r2 a2 rv => ?_⟩
  exact q Hs2 H2 v (ags_out r1 k1 h2 h3 r2 a2 (h4.trans h1.symm)) (ags_adv a1 p1 a2) rv
theorem evf_callG (F : FnG X.prog X.w X.K X.mg X.base CX k f fd ps (spEF X.K n ML)) (g : X.A.guards = some []) (hr : Room k X.A) (hg : Gl X x) (hm : X.mg x = some (.ref f)) (hk : PySem.W.keepIn X.K (.ref f) = true) (hb : Binds X.K fd ps []) (hx : Passes CX X E)
    (ha : AJ X (e :: es) R) (hdb : (x == ("__debug__" : Str)) = false := by decide) (he : starEach (e :: es) X.env = (false, eval e X.env) :: starEach es X.env := by rfl) (hpl : (backTo pos (starEach es X.env)).any (·.1) = false := by rfl) :
    EVF X (.Call (.Name x p) (e :: es) [] pos) (eCallGF ML n R) := by
  intro env σ fp Hs H d env' Q rl e q
  obtain ⟨⟨as, en1⟩, e1, e⟩ := bind2 (γ := Unit) e
  split at e <;> try contradiction
  rename_i hyp
  obtain ⟨h1, h2, h3⟩ := hyp
  obtain ⟨⟨d', ss⟩, e2, e⟩ := bind2 (γ := Unit) e
  split at e <;> try contradiction
  rename_i h4
  injection e with e; injection e with ea eb; subst ea eb
  refine we_of (pe_callG F g hr hg hm hk hb .nil hx pa_wa hdb he hpl) (ha env σ fp Hs H as en1 _ rl e1 fun Hs1 H1 vs P r1 a1 p1 p2 k1 => ?_)
  show spEF X.K n ML (vs ++ []) H1 Q E
  rw [List.append_nil]
  refine ⟨by rw [k1.len]; exact h1, Hs1, _, _, d', ss, ags_in r1 k1 h2 h3, e2, fun Hs2 H2 p ws r2 a2 n n' k2 k3 => ?_⟩
  exact q Hs2 H2 p ws (ags_out r1 k1 h2 h3 r2 a2 (h4.trans h1.symm)) (ags_adv a1 p1 a2) (a1.trk p n) n' k2 k3
end
end TL
set_option Elab.async false
set_option linter.all false
set_option maxRecDepth 100000
namespace TL
open PySem PySem.Spec L2
open PyProof.Rows hiding St
inductive Vr where
  | t (d : D)
  | f (xs : List D)
  | s (x : SV)
inductive VsR (K : PySem.W.Frag) (Hs H H0 : Hp) : List Vr → List V → List Addr → Prop
  | nil : VsR K Hs H H0 [] [] []
  | t {d : D} {v : V} {rs : List Vr} {vs : List V} {ps : List Addr} (h : Rp K Hs v d) (r : VsR K Hs H H0 rs vs ps) : VsR K Hs H H0 (.t d :: rs) (v :: vs) ps
  | f {xs : List D} {p : Addr} {ws : List V} {rs : List Vr} {vs : List V} {ps : List Addr} (h1 : H p = some (.lst ws)) (h2 : RpL K Hs ws xs) (h3 : Hs p = none) (h4 : H0 p = none) (h5 : p ∉ ps) (r : VsR K Hs H H0 rs vs ps) : VsR K Hs H H0 (.f xs :: rs) (.ref p :: vs) (p :: ps)
  | s {x : SV} {v : V} {own : List Addr} {rs : List Vr} {vs : List V} {ps : List Addr} (h1 : SRep K Hs H x (some v) own) (h2 : own.Nodup) (h3 : ∀ a ∈ own, (∃ o, H a = some o) ∧ Hs a = none ∧ H0 a = none ∧ a ∉ ps) (r : VsR K Hs H H0 rs vs ps) : VsR K Hs H H0 (.s x :: rs) (v :: vs) (own ++ ps)
abbrev EP' := Ev → Option (List Vr × Ev)
def FJ (X : Cx) (es : List Expr) (F : EP') : Prop := ∀ (env : Ev) (σ : L2.St) (fp : Fp) (Hs H : Hp) (d : List Vr) (env' : Ev) (Q : List V → Hp → Prop), Rl X.K Hs H env σ fp → F env = some (d, env') →
  (∀ Hs' H' vs ps, Rl X.K Hs' H' env' σ fp → Adv fp Hs H fp Hs' H' → VsR X.K Hs' H' H d vs ps → Q vs H') → WA X es σ H Q
def vNil : EP' := fun e => some ([], e)
def vT (f : EF) (r : EP') : EP' := fun e => (f e).bind fun x => (r x.2).bind fun y => some (.t x.1 :: y.1, y.2)
def vF (f : EL) (r : EP') : EP' := fun e => (f e).bind fun x => (r x.2).bind fun y => some (.f x.1 :: y.1, y.2)
section
variable {X : Cx} {a : Expr} {es : List Expr} {F : EF} {FL' : EL} {R : EP'}
theorem VsR.old {K : PySem.W.Frag} {Hs H H0 H1 : Hp} (h : ∀ p, H1 p = none → H0 p = none) : ∀ {rs : List Vr} {vs : List V} {ps : List Addr}, VsR K Hs H H1 rs vs ps → VsR K Hs H H0 rs vs ps
  | _, _, _, .nil => .nil
  | _, _, _, .t a r => .t a (r.old h)
  | _, _, _, .f h1 h2 h3 h4 h5 r => .f h1 h2 h3 (h _ h4) h5 (r.old h)
  | _, _, _, .s h1 h2 h3 r => .s h1 h2 (fun a m => let ⟨z1, z2, z3, z4⟩ := h3 a m; ⟨z1, z2, h _ z3, z4⟩) (r.old h)
theorem VsR.fresh {K : PySem.W.Frag} {Hs H H0 : Hp} {p : Addr} {o : HO} (h : H0 p = some o) : ∀ {rs : List Vr} {vs : List V} {ps : List Addr}, VsR K Hs H H0 rs vs ps → p ∉ ps
  | _, _, _, .nil => by simp
  | _, _, _, .t a r => r.fresh h
  | _, _, _, .f h1 h2 h3 h4 h5 r => fun m => by
    rcases List.mem_cons.mp m with e | m
    · subst e; rw [h] at h4; cases h4
    · exact r.fresh h m
  | _, _, _, .s h1 h2 h3 r => fun m => by
    rcases List.mem_append.mp m with m | m
    · have := (h3 p m).2.2.1; rw [h] at this; cases this
    · exact r.fresh h m
theorem fj_nil : FJ X [] vNil := fun env σ fp Hs H d env' Q rl e q => by
  injection e with e; injection e with ea eb; subst ea eb
  exact wa_of pa_nil (q Hs H [] [] rl Adv.refl .nil)
theorem fj_t (ha : EV X a F) (hr : FJ X es R) (hs : starEach (a :: es) X.env = (false, eval a X.env) :: starEach es X.env := by rfl) : FJ X (a :: es) (vT F R) := by
  intro env σ fp Hs H d env' Q rl e q
  obtain ⟨⟨x, en1⟩, e1, e⟩ := bind2 (γ := Unit) e
  obtain ⟨⟨xs, en2⟩, e2, e⟩ := bind2 (γ := Unit) e
  injection e with e; injection e with ea eb; subst ea eb
  exact wa_of (pa_cons pe_we pa_wa hs) (ha env σ fp Hs H x en1 _ rl e1 fun Hs1 H1 v r1 a1 k1 => hr en1 σ fp Hs1 H1 xs en2 _ r1 e2 fun Hs2 H2 vs ps r2 a2 k2 => q Hs2 H2 _ ps r2 (a1.trans a2) (.t (k1.sm a2.same) (k2.old a1.trk)))
theorem fj_f (ha : EVF X a FL') (hr : FJ X es R) (hs : starEach (a :: es) X.env = (false, eval a X.env) :: starEach es X.env := by rfl) : FJ X (a :: es) (vF FL' R) := by
  intro env σ fp Hs H d env' Q rl e q
  obtain ⟨⟨x, en1⟩, e1, e⟩ := bind2 (γ := Unit) e
  obtain ⟨⟨xs, en2⟩, e2, e⟩ := bind2 (γ := Unit) e
  injection e with e; injection e with ea eb; subst ea eb
  refine wa_of (pa_cons pe_we pa_wa hs) (ha env σ fp Hs H x en1 _ rl e1 fun Hs1 H1 p ws r1 a1 n n' h1 k1 => hr en1 σ fp Hs1 H1 xs en2 _ r1 e2 fun Hs2 H2 vs ps r2 a2 k2 => ?_)
  obtain ⟨z1, z2⟩ := a2.free h1 n' (rl.free n)
  exact q Hs2 H2 _ (p :: ps) r2 (a1.trans a2) (.f z1 (k1.sm a2.same) z2 n (k2.fresh h1) (k2.old a1.trk))
end
def stE : List Nat → List Vr → Ev → Option Ev
  | [], [], e => some e
  | i :: is, .t d :: rs, e => if i < e.length then stE is rs (e.set i (.sh d)) else none
  | i :: is, .f xs :: rs, e => if i < e.length then stE is rs (e.set i (.ow xs)) else none
  | i :: is, .s x :: rs, e => if i < e.length then stE is rs (e.set i x) else none
  | _, _, _ => none
def stS : List Nat → List V → L2.St → L2.St
  | i :: is, v :: vs, σ => stS is vs (σ.set i (some v))
  | _, _, σ => σ
theorem st_ok {K : PySem.W.Frag} {Hs H H0 : Hp} : ∀ {is : List Nat} {rs : List Vr} {vs : List V} {ps : List Addr} {e e' : Ev} {σ : L2.St} {fp : Fp} {kp : List Nat}, Rl K Hs H e σ fp → (∀ p ∈ ps, ∀ j, p ∉ fp j) → VsR K Hs H H0 rs vs ps → stE is rs e = some e' → (is.all fun i => !kp.contains i) = true →
    ∃ fp', Rl K Hs H e' (stS is vs σ) fp' ∧ (∀ j a, a ∈ fp' j → (∃ i, a ∈ fp i) ∨ a ∈ ps) ∧ Kp kp σ fp (stS is vs σ) fp'
  | [], _, _, _, e, e', σ, fp, kp, rl, nf, r, h, hk => by
    cases r with
    | nil => injection h with h; subst h; exact ⟨fp, rl, fun j a m => .inl ⟨j, m⟩, Kp.refl⟩
    | t _ _ => cases h
    | f _ _ _ _ _ _ => cases h
    | s _ _ _ _ => cases h
  | i :: is, _, _, _, e, e', σ, fp, kp, rl, nf, r, h, hk => by
    rw [List.all_cons, Bool.and_eq_true] at hk
    have hki : kp.contains i = false := by simpa using hk.1
    cases r with
    | nil => cases h
    | t hd r =>
      simp only [stE] at h
      split at h <;> try contradiction
      rename_i hi
      obtain ⟨fp', r1, r2, r3⟩ := st_ok (fp := pt fp i []) (rl.putSh hi hd) (fun p m j z => by
        by_cases q : j = i
        · subst q; rw [pt_same] at z; exact List.not_mem_nil z
        · rw [pt_ne q] at z; exact nf p m j z) r h hk.2
      refine ⟨fp', r1, fun j a m => ?_, (Kp.set hki).trans r3⟩
      rcases r2 j a m with ⟨l, z⟩ | z
      · by_cases q : l = i
        · subst q; rw [pt_same] at z; exact (List.not_mem_nil z).elim
        · rw [pt_ne q] at z; exact .inl ⟨l, z⟩
      · exact .inr z
    | @f xs p ws rs vs ps h1 h2 h3 h4 h5 r =>
      simp only [stE] at h
      split at h <;> try contradiction
      rename_i hi
      obtain ⟨fp', r1, r2, r3⟩ := st_ok (fp := pt fp i [p]) (rl.putOw hi (nf p List.mem_cons_self) h3 h1 h2) (fun p' m j z => by
        by_cases q : j = i
        · subst q; rw [pt_same] at z
          have : p' = p := by simpa using z
          subst this; exact h5 m
        · rw [pt_ne q] at z; exact nf p' (List.mem_cons_of_mem _ m) j z) r h hk.2
      refine ⟨fp', r1, fun j a m => ?_, (Kp.set hki).trans r3⟩
      rcases r2 j a m with ⟨l, z⟩ | z
      · by_cases q : l = i
        · subst q; rw [pt_same] at z
          have : a = p := by simpa using z
          subst this; exact .inr List.mem_cons_self
        · rw [pt_ne q] at z; exact .inl ⟨l, z⟩
      · exact .inr (List.mem_cons_of_mem _ z)
    | @s x v own rs vs ps h1 h2 h3 r =>
      simp only [stE] at h
      split at h <;> try contradiction
      rename_i hi
      obtain ⟨fp', r1, r2, r3⟩ := st_ok (fp := pt fp i own) (rl.put hi h1 h2 (fun j a _ m => nf a (List.mem_append_left _ m) j) fun a m => (h3 a m).2.1) (fun p' m j z => by
        by_cases q : j = i
        · subst q; rw [pt_same] at z
          exact (h3 p' z).2.2.2 m
        · rw [pt_ne q] at z; exact nf p' (List.mem_append_right _ m) j z) r h hk.2
      refine ⟨fp', r1, fun j a m => ?_, (Kp.set hki).trans r3⟩
      rcases r2 j a m with ⟨l, z⟩ | z
      · by_cases q : l = i
        · subst q; rw [pt_same] at z
          exact .inr (List.mem_append_left _ z)
        · rw [pt_ne q] at z; exact .inl ⟨l, z⟩
      · exact .inr (List.mem_append_right _ z)
theorem VsR.new {K : PySem.W.Frag} {Hs H H0 : Hp} : ∀ {rs : List Vr} {vs : List V} {ps : List Addr}, VsR K Hs H H0 rs vs ps → ∀ p ∈ ps, H0 p = none
  | _, _, _, .nil, p, m => by simp at m
  | _, _, _, .t a r, p, m => r.new p m
  | _, _, _, .f h1 h2 h3 h4 h5 r, p, m => by
    rcases List.mem_cons.mp m with e | m
    · subst e; exact h4
    · exact r.new p m
  | _, _, _, .s h1 h2 h3 r, p, m => by
    rcases List.mem_append.mp m with m | m
    · exact (h3 p m).2.2.1
    · exact r.new p m
theorem adv_st {Hs H Hs' H' : Hp} {fp fp' : Fp} {ps : List Addr} (a : Adv fp Hs H fp Hs' H') (n : ∀ p ∈ ps, H p = none) (h : ∀ j a, a ∈ fp' j → (∃ i, a ∈ fp i) ∨ a ∈ ps) : Adv fp Hs H fp' Hs' H' :=
  ⟨a.same, a.keep, a.trk, fun j b m => (h j b m).imp_right fun z => n b z, a.fre⟩
theorem VsR.lenV {K : PySem.W.Frag} {Hs H H0 : Hp} : ∀ {rs : List Vr} {vs : List V} {ps : List Addr}, VsR K Hs H H0 rs vs ps → vs.length = rs.length
  | _, _, _, .nil => rfl
  | _, _, _, .t a r => by simp [r.lenV]
  | _, _, _, .f h1 h2 h3 h4 h5 r => by simp [r.lenV]
  | _, _, _, .s h1 h2 h3 r => by simp [r.lenV]
theorem stE_len : ∀ {is : List Nat} {rs : List Vr} {e e' : Ev}, stE is rs e = some e' → rs.length = is.length
  | [], [], _, _, _ => rfl
  | [], _ :: _, _, _, h => by cases h
  | _ :: _, [], _, _, h => by cases h
  | i :: is, r :: rs, e, e', h => by
    cases r <;> (simp only [stE] at h; split at h <;> try contradiction) <;> simp [stE_len h]
def gPar (is : List Nat) (f : EP') : GF := fun e => (f e).bind fun x => (stE is x.1 x.2).map Fl.nx
section
variable {X : Cx} {kp : List Nat} {F : EP'} {pos : Pos}
theorem sj_par {i j : Nat} {x y : Str} {a b : Expr} {px py pt' : Pos} {kt k2 pt2} (hk : ([i, j].all fun i => !kp.contains i) = true) (hc : X.calm = true) (hN : X.N.Nodup) (hi : X.N[i]? = some x) (hj : X.N[j]? = some y) (hij : i ≠ j)
    (hx : X.env.scope.names.lookup x = some .local) (hy : X.env.scope.names.lookup y = some .local) (ha : FJ X [a, b] F)
    (hw : swappedStores [.Tuple [.Name x px, .Name y py] kt pt'] (.Tuple [a, b] k2 pt2) X.env = pure (some [x, y]))
    (hs : swapsWithSole [.Tuple [.Name x px, .Name y py] kt pt'] (.Tuple [a, b] k2 pt2) pos.line X.env = pure false := by rfl) :
    SJ X kp (.Assign [.Tuple [.Name x px, .Name y py] kt pt'] (.Tuple [a, b] k2 pt2) pos) (gPar [i, j] F) := by
  intro env σ fp Hs H r D' rl e q
  obtain ⟨⟨rs, en1⟩, e1, e⟩ := bind2 (γ := Unit) e
  obtain ⟨e', e2, e⟩ := prod2 (β := Unit) e
  subst e
  refine ws_of (ps_par hc hN hi hj hij hx hy pa_wa hw hs) (ha env σ fp Hs H rs en1 _ rl e1 fun Hs1 H1 vs ps r1 a1 k1 => ?_)
  have nf : ∀ p ∈ ps, ∀ j, p ∉ fp j := fun p m j => rl.free (k1.new p m) j
  obtain ⟨fp', z1, z2, z3⟩ := st_ok r1 nf k1 e2 hk
  have hv : ∃ v w, vs = [v, w] := by
    have h := k1.lenV
    rw [stE_len e2] at h
    match vs, h with
    | [v, w], _ => exact ⟨v, w, rfl⟩
  obtain ⟨v, w, rfl⟩ := hv
  exact ⟨v, w, rfl, q _ fp' Hs1 H1 z1 (adv_st a1 k1.new z2) z3⟩
end
def gPutE (i : Nat) (f : EF) (k : FD) : GF := fun e => (f e).bind fun d => ((k d.2).bind asN).bind fun n => (ownE i d.2).bind fun xs => (ixN xs.length n).bind fun j => some (.nx (d.2.set i (.ow (xs.set j d.1))))
section
variable {X : Cx} {kp : List Nat} {a b : Expr} {F : EF} {g : FD} {pos p : Pos} {x : Str}
end
def mgS (i : Nat) (j : Nat) (a b : SV) : Option SV := match a, b with
  | .ow xs, .ow ys => if j ≠ i ∧ ys.all flatD = true then some (.ow ys) else none
  | .ow xs, .sh _ => if j = i then some (.ow xs) else none
  | .sh d, _ => some (.sh d)
  | .un, _ => some .un
  | _, _ => none
def mgE (i : Nat) : Nat → Ev → Ev → Option Ev
  | _, [], [] => some []
  | j, a :: as, b :: bs => (mgS i j a b).bind fun s => (mgE i (j + 1) as bs).map (s :: ·)
  | _, _, _ => none
def eFrz (i : Nat) (F : EF) : EF := fun e => (frzE i e).bind fun e1 => (F e1).bind fun r => if flatD r.1 = true then (mgE i 0 e r.2).map fun e2 => (r.1, e2) else none
theorem RpL.flat {K : PySem.W.Frag} {H H' : Hp} : ∀ {vs : List V} {ds : List D}, RpL K H vs ds → ds.all flatD = true → RpL K H' vs ds
  | [], _, h, _ => by cases h; exact .nil
  | _ :: _, _, h, f => by
    cases h with
    | cons h r =>
      rw [List.all_cons, Bool.and_eq_true] at f
      exact .cons (h.flat f.1) (r.flat f.2)
section
variable {X : Cx} {a : Expr} {F : EF} {FB' : EB}
end
end TL
set_option Elab.async false
set_option linter.all false
set_option maxRecDepth 100000
namespace TL
open PySem PySem.Spec L2
open PyProof.Rows hiding St
def rD (K : PySem.W.Frag) (k : D → D → Option D) : R2 := fun x y H Q => ∃ Hs a b d, Same Hs H ∧ Rp K Hs x a ∧ Rp K Hs y b ∧ k a b = some d ∧ PoV K Hs H d Q
theorem OpD.r {X : Cx} {f : Value → Value → Sem Value} {k : D → D → Option D} (h : OpD X f k) : OpR X f (rD X.K k) := fun pins s σ H x y v u Q I rx ry ⟨Hs, a, b, d, sm, ra, rb, e, q⟩ => h pins s σ Hs H x y v u a b d Q I sm rx ry ra rb e q
def fCh (k k' : D → D → Option D) (a b c : FD) : FD := fun e => (a e).bind fun x => (b e).bind fun y => ((k x y).bind asB).bind fun r => if r then (c e).bind fun z => k' y z else some (.bool false)
theorem asB_eq {d : D} {b : Bool} (h : asB d = some b) : d = .bool b := by
  cases d <;> simp only [asB] at h <;> try contradiction
  injection h with h; rw [h]
section
variable {X : Cx} {a b c : Expr} {pos : Pos} {f g h : FD} {op op' : CmpOp} {k k' : D → D → Option D}
theorem pv_chain (ho : OpD X (compareOp op) k) (ho' : OpD X (compareOp op') k') (ha : PV X a f) (hb : PV X b g) (hc : PV X c h) (hm : lastMarks [op, op'] [b, c] = false := by with_unfolding_all rfl) : PV X (.Compare a [op, op'] [b, c] pos) (fCh k k' f g h) := by
  intro env σ fp Hs H d Q rl e q
  obtain ⟨x, e1, e⟩ := bind2 (γ := Unit) e
  obtain ⟨y, e2, e⟩ := bind2 (γ := Unit) e
  obtain ⟨r, e3, e⟩ := bind2 (γ := Unit) e
  obtain ⟨rd, e4, e5⟩ := bind2 (γ := Unit) e3
  refine we_of (pe_chain ho.r ho'.r pe_we pe_we pe_we hm) (ha env σ fp Hs H x _ rl e1 fun Hs1 H1 v g1 r1 => hb env σ fp Hs1 H1 y _ (g1.rl rl) e2 fun Hs2 H2 u g2 r2 => ?_)
  refine ⟨Hs2, x, y, rd, g2.sub, r1.sm g2.same, r2, e4, fun Hs3 H3 w g3 r3 => ?_⟩
  have e5 := asB_eq e5
  subst e5
  cases r3
  have g := (g1.trans g2).trans g3
  refine ⟨_, rfl, ?_⟩
  cases r with
  | false =>
    have e' : PyData.bool false = d := by simpa using e
    subst e'; exact iteF ((q.go g).at g.sub (.b _))
  | true =>
    simp only [if_true] at e
    obtain ⟨z, e6, e⟩ := bind2 (γ := Unit) e
    refine iteT (hc env σ fp Hs3 H3 z _ (g.rl rl) e6 fun Hs4 H4 t g4 r4 => ?_)
    exact ⟨Hs4, y, z, d, g4.sub, (r2.sm g3.same).sm g4.same, r4, e, q.go (g.trans g4)⟩
theorem ptv_chain (ho : OpD X (compareOp op) k) (ho' : OpD X (compareOp op') k') (ha : PV X a f) (hb : PV X b g) (hc : PV X c h) (hm : lastMarks [op, op'] [b, c] = false := by with_unfolding_all rfl) : PTV X (.Compare a [op, op'] [b, c] pos) (fB (fCh k k' f g h)) := by
  intro env σ fp Hs H d Q rl e q
  obtain ⟨bd, e, eb⟩ := bind2 (γ := Unit) e
  have ebd : bd = .bool d := by
    cases bd <;> simp only [asB] at eb <;> try contradiction
    injection eb with eb; rw [eb]
  subst ebd
  obtain ⟨x, e1, e⟩ := bind2 (γ := Unit) e
  obtain ⟨y, e2, e⟩ := bind2 (γ := Unit) e
  obtain ⟨r, e3, e⟩ := bind2 (γ := Unit) e
  obtain ⟨rd, e4, e5⟩ := bind2 (γ := Unit) e3
  refine wt_of (pt_chain ho.r ho'.r pe_we pe_we pe_we hm) (ha env σ fp Hs H x _ rl e1 fun Hs1 H1 v g1 r1 => hb env σ fp Hs1 H1 y _ (g1.rl rl) e2 fun Hs2 H2 u g2 r2 => ?_)
  refine ⟨Hs2, x, y, rd, g2.sub, r1.sm g2.same, r2, e4, fun Hs3 H3 w g3 r3 => ?_⟩
  have e5 := asB_eq e5
  subst e5
  cases r3
  have g := (g1.trans g2).trans g3
  refine ⟨_, rfl, ?_⟩
  cases r with
  | false =>
    have e' : false = d := by simpa using e
    subst e'; exact iteF ⟨_, rfl, q Hs3 H3 g⟩
  | true =>
    simp only [if_true] at e
    obtain ⟨z, e6, e⟩ := bind2 (γ := Unit) e
    refine iteT (hc env σ fp Hs3 H3 z _ (g.rl rl) e6 fun Hs4 H4 t g4 r4 => ?_)
    refine ⟨Hs4, y, z, _, g4.sub, (r2.sm g3.same).sm g4.same, r4, e, fun Hs5 H5 w g5 r5 => ?_⟩
    cases r5
    exact ⟨_, rfl, q Hs5 H5 ((g.trans g4).trans g5)⟩
variable {x y : Str} {p p2 tpos : Pos} {T : String}
theorem pe_type (hg : Gl X "type") (hm : X.mg "type" = none) (hs : starEach [a] X.env = (false, eval a X.env) :: starEach [] X.env := by rfl) (hpl : (backTo tpos (starEach [] X.env)).any (·.1) = false := by rfl) :
    PE X (.Call (.Name "type" p) [a] [] tpos) (tCB (rTypC X.K) (tCons (WE X a) tNil)) := pe_callTy call_typeC hg hm (by decide +kernel) (pa_cons pe_we pa_nil hs) (by decide) (by decide) hs hpl
def tyEq (T : String) (d : D) : D := .bool (decide (tyN d = T))
def tyNe (T : String) (d : D) : D := .bool (!decide (tyN d = T))
theorem op_neTA {X : Cx} {T : String} (hT : TyOk T) : OpR X (compareOp .NotEq) (fun x y H Q => ∃ d : D, x = .ty (tyN d) ∧ y = .ty T ∧ Q (.bl (!decide (tyN d = T))) H) := fun pins s σ H x y v u Q I rx ry ⟨d, e1, e2, q⟩ => op_neTy (meta_d d) (meta_of hT) pins s σ H x y v u Q I rx ry ⟨e1, e2, q⟩
def isN (d : D) : D := .bool (isNoneD d)
def isNN (d : D) : D := .bool (!isNoneD d)
theorem pv_isN {j pos2} (ha : PV X a f) : PV X (.Compare a [.Is] [.Constant .none j pos2] pos) (fMapD isN f) := by
  intro env σ fp Hs H d Q rl e q
  obtain ⟨x, e1, e⟩ := prod2 (β := Unit) e
  subst e
  exact we_of (pe_cmpR op_isN pe_we pe_non (nomark _)) (ha env σ fp Hs H x _ rl e1 fun Hs1 H1 v g1 r1 => ⟨rfl, by rw [r1.isN]; exact (q.go g1).at g1.sub (.b _)⟩)
theorem ptv_tyNe (hT : TyOk T) (hg : Gl X "type") (hm : X.mg "type" = none) (hg2 : Gl X y) (hm2 : X.mg y = none) (hv2 : bootBuiltins y = some (.type T)) (ha : PV X a f) (hn : y ≠ "__name__" := by decide) (hdb : (y == ("__debug__" : Str)) = false := by decide)
    (hs : starEach [a] X.env = (false, eval a X.env) :: starEach [] X.env := by rfl) (hpl : (backTo tpos (starEach [] X.env)).any (·.1) = false := by rfl) : PTV X (.Compare (.Call (.Name "type" p) [a] [] tpos) [.NotEq] [.Name y p2] pos) (fB (fMapD (tyNe T) f)) := by
  intro env σ fp Hs H d Q rl e q
  obtain ⟨z, e, eb⟩ := bind2 (γ := Unit) e
  obtain ⟨x, e1, e⟩ := prod2 (β := Unit) e
  subst e
  injection eb with eb; subst eb
  refine wt_of (pt_cmpR (op_neTA hT) (pe_type hg hm hs hpl) (pe_bltn (v := .ty T) hg2 hm2 hv2 rfl hn hdb) (nomark _)) ?_
  exact ha env σ fp Hs H x _ rl e1 fun Hs1 H1 v g1 r1 => ⟨v, tyN x, rfl, r1.tyB g1.sub, x, rfl, rfl, _, rfl, q Hs1 H1 g1⟩
theorem ptv_isNN {j pos2} (ha : PV X a f) : PTV X (.Compare a [.IsNot] [.Constant .none j pos2] pos) (fB (fMapD isNN f)) := by
  intro env σ fp Hs H d Q rl e q
  obtain ⟨z, e, eb⟩ := bind2 (γ := Unit) e
  obtain ⟨x, e1, e⟩ := prod2 (β := Unit) e
  subst e
  injection eb with eb; subst eb
  exact wt_of (pt_cmpR op_notN pe_we pe_non (nomark _)) (ha env σ fp Hs H x _ rl e1 fun Hs1 H1 v g1 r1 => ⟨rfl, _, rfl, by rw [r1.isN]; exact q Hs1 H1 g1⟩)
end
end TL
set_option Elab.async false
set_option linter.all false
set_option maxRecDepth 100000
namespace TL
open PySem PySem.Spec L2
open PyProof.Rows hiding St
section
variable {X : Cx} {a : Expr} {es : List Expr} {pos p : Pos} {f : FD} {x : Str}
theorem rp_ints {K : PySem.W.Frag} {H : Hp} : ∀ ns : List Int, RpL K H (ns.map V.int) (ns.map PyData.int)
  | [] => .nil
  | n :: ns => .cons (.i n) (rp_ints ns)
theorem pv_const {d : D} (h : ∃ u v, X.mg x = some u ∧ RelV v u ∧ ∀ Hs, Rp X.K Hs v d) (hg : Gl X x) (hx : (x == ("__debug__" : Str)) = false := by decide) : PV X (.Name x pos) (fC d) := by
  obtain ⟨u, v, h1, h2, h3⟩ := h
  exact pv_glob hg h1 h2 h3 hx
theorem sp_top {K : PySem.W.Frag} {M : List D → Option D} {H : Hp} {a : Addr} {ns : List Int} (hS : SqL K H a (ns.map V.int)) (h : M [.list (ns.map .int)] = some (.bool true)) :
    spV K 1 M [.ref a] H (fun v _ => v = .bl true) (fun _ _ _ => False) := by
  refine ⟨rfl, H, [.list (ns.map .int)], .bool true, Same.refl _, .cons (.l hS (rp_ints ns)) .nil, h, ?_⟩
  intro Hs' H' v g r
  cases r
  rfl
end
structure Cal (P : Program) (w : World) (K : PySem.W.Frag) (mg : Str → Option Value) (base : Heap) (k : Nat) (x : Str) (ps : List Str) (sp : Sp) : Prop where
  ex : ∃ (f : Addr) (fd : FuncData), FnG P w K mg base CX0 k f fd ps sp ∧ mg x = some (.ref f) ∧ PySem.W.keepIn K (.ref f) = true ∧ Binds K fd ps []
theorem ty_int : TyOk "int" := .inl rfl
theorem ty_bool : TyOk "bool" := .inr (.inl rfl)
theorem ty_str : TyOk "str" := .inr (.inr (.inl rfl))
theorem ty_list : TyOk "list" := .inr (.inr (.inr (.inl rfl)))
theorem ty_tuple : TyOk "tuple" := .inr (.inr (.inr (.inr (.inl rfl))))
theorem hu200 {k : Nat} {A : Around} (r : Room k A) : A.units + 200 < cLine := by have := r.un; omega
end TL
set_option Elab.async false
set_option linter.all false
set_option maxRecDepth 100000
namespace TL
open PySem PySem.Spec L2
open PyProof.Rows hiding St
def Okk {α : Type} (o : Option α) (P : α → Prop) : Prop := ∃ x, o = some x ∧ P x
theorem Okk.mono {α : Type} {o : Option α} {P Q : α → Prop} (h : Okk o P) (q : ∀ x, P x → Q x) : Okk o Q := by
  obtain ⟨x, e, p⟩ := h; exact ⟨x, e, q x p⟩
structure Fine (w k : Nat) (d : D) : Prop where
  lv : PyData.leavesShort 100 d = true
  wt : d.weight ≤ w
  dp : d.depth ≤ k
  sh : d.showable = true
  cl : d.canLay0 = true
theorem Fine.mono {w k w' k' : Nat} {d : D} (h : Fine w k d) (hw : w ≤ w') (hk : k ≤ k') : Fine w' k' d := ⟨h.lv, Nat.le_trans h.wt hw, Nat.le_trans h.dp hk, h.sh, h.cl⟩
theorem log_of_lt {n k : Nat} (hk : 0 < k) (h : n < 2 ^ k) : n.log2 < k := by
  by_cases z : n = 0
  · subst z; simpa using hk
  · exact (Nat.log2_lt z).2 h
theorem fine_int {k} {i : Int} (h : i.natAbs < 10 ^ 90) : Fine 300 k (.int i) := by
  have hl : i.natAbs.log2 < 300 := log_of_lt (by decide) (Nat.lt_trans h (by decide +kernel))
  refine ⟨?_, ?_, Nat.zero_le _, ?_, rfl⟩
  · simp only [PyData.leavesShort, PyData.shown]
    have e := int_text_length_le10 (k := 90) (by decide) h
    have e2 : (Str.ofString (toString i)).length = (toString i).length := PySem.ofString_length _
    exact decide_eq_true (by omega)
  · simp only [PyData.weight]
    split <;> omega
  · simp only [PyData.showable]
    exact decide_eq_true (by omega)
theorem all_lv : ∀ {xs : List D}, (∀ x ∈ xs, PyData.leavesShort 100 x = true) → PyData.leavesShortAll 100 xs = true
  | [], _ => rfl
  | x :: xs, h => by
    simp only [PyData.leavesShortAll, Bool.and_eq_true]
    exact ⟨h x (List.mem_cons_self ..), all_lv fun y m => h y (List.mem_cons_of_mem _ m)⟩
theorem all_sh : ∀ {xs : List D}, (∀ x ∈ xs, PyData.showable x = true) → PyData.showableAll xs = true
  | [], _ => rfl
  | x :: xs, h => by
    simp only [PyData.showableAll, Bool.and_eq_true]
    exact ⟨h x (List.mem_cons_self ..), all_sh fun y m => h y (List.mem_cons_of_mem _ m)⟩
theorem all_cl : ∀ {xs : List D}, (∀ x ∈ xs, PyData.canLay0 x = true) → PyData.canLayAll0 xs = true
  | [], _ => rfl
  | x :: xs, h => by
    simp only [PyData.canLayAll0, Bool.and_eq_true]
    exact ⟨h x (List.mem_cons_self ..), all_cl fun y m => h y (List.mem_cons_of_mem _ m)⟩
theorem all_dp {k : Nat} : ∀ {xs : List D}, (∀ x ∈ xs, x.depth ≤ k) → PyData.depthAll xs ≤ k
  | [], _ => Nat.zero_le _
  | x :: xs, h => by
    simp only [PyData.depthAll]
    exact Nat.max_le.2 ⟨h x (List.mem_cons_self ..), all_dp fun y m => h y (List.mem_cons_of_mem _ m)⟩
theorem all_wt {w : Nat} : ∀ {xs : List D}, (∀ x ∈ xs, x.weight ≤ w) → PyData.weightAll xs ≤ xs.length * (w + 1)
  | [], _ => by simp [PyData.weightAll]
  | x :: xs, h => by
    simp only [PyData.weightAll, List.length_cons]
    have h1 := h x (List.mem_cons_self ..)
    have h2 := all_wt (w := w) fun y m => h y (List.mem_cons_of_mem x m)
    rw [Nat.add_mul]
    omega
theorem fine_list {w k n : Nat} {xs : List D} (h : ∀ x ∈ xs, Fine w k x) (hl : xs.length ≤ n) : Fine (n * (w + 1)) (k + 1) (.list xs) :=
  ⟨all_lv fun x m => (h x m).lv, Nat.le_trans (all_wt fun x m => (h x m).wt) (Nat.mul_le_mul_right _ hl), Nat.succ_le_succ (all_dp fun x m => (h x m).dp), all_sh fun x m => (h x m).sh, all_cl fun x m => (h x m).cl⟩
theorem fine_tup {w k n : Nat} {xs : List D} (h : ∀ x ∈ xs, Fine w k x) (hl : xs.length ≤ n) : Fine (n * (w + 1)) (k + 1) (.tuple xs) :=
  ⟨all_lv fun x m => (h x m).lv, Nat.le_trans (all_wt fun x m => (h x m).wt) (Nat.mul_le_mul_right _ hl), Nat.succ_le_succ (all_dp fun x m => (h x m).dp), all_sh fun x m => (h x m).sh, all_cl fun x m => (h x m).cl⟩
theorem fine_str {k : Nat} {x : Str} (h : x.cps.toList.all (fun c => decide (c < 16 ^ 8)) = true) (h2 : PyData.canLay0 (.str x) = true) : Fine x.cps.size k (.str x) :=
  ⟨h, Nat.le_refl _, Nat.zero_le _, rfl, h2⟩
mutual
theorem empty_of : ∀ d : D, d.canLay0 = true → emptyD d = true
  | .none, _ => rfl
  | .bool _, _ => rfl
  | .int _, _ => rfl
  | .str _, _ => rfl
  | .list ds, h => by
    simp only [emptyD]
    exact emptys_of ds (by simpa only [PyData.canLay0] using h)
  | .tuple ds, h => by
    simp only [emptyD]
    exact emptys_of ds (by simpa only [PyData.canLay0] using h)
  | .dict _, h => by simp [PyData.canLay0] at h
theorem emptys_of : ∀ ds : List D, PyData.canLayAll0 ds = true → emptyDs ds = true
  | [], _ => rfl
  | d :: ds, h => by
    simp only [PyData.canLayAll0, Bool.and_eq_true] at h
    simp only [emptyDs, Bool.and_eq_true]
    exact ⟨empty_of d h.1, emptys_of ds h.2⟩
end
theorem Fine.plain {w k : Nat} {d : D} (h : Fine w k d) : d.plain = true := PyData.plain_of_canLay0 d h.cl
theorem eqOk_of {a b : D} (ha : a.plain = true) (hb : b.plain = true) (h : a.depth ≤ 64 ∨ b.depth ≤ 64) : eqOk a b = true := by
  unfold eqOk
  rw [ha, hb, Bool.and_self, Bool.true_and]
  exact decide_eq_true (by omega)
theorem eqD_self {d : D} (h : d.plain = true) (h2 : d.depth ≤ 64) : eqD d d = some (.bool true) := by
  refine (if_pos (eqOk_of h h (.inl h2))).trans ?_
  rw [SeqAt.eqv_refl_plain d h]
theorem eqD_str (x : Str) : eqD (.str x) (.str x) = some (.bool true) := eqD_self rfl (Nat.zero_le _)
theorem lcG_map {A : AF} {t : FB} {f : FD} {e : Ev} (F : D → D) : ∀ {ds : List D}, (∀ d ∈ ds, ∃ e1, A d e = some e1 ∧ t e1 = some true ∧ f e1 = some (F d)) → lcG A t f ds e = some (ds.map F)
  | [], _ => rfl
  | d :: ds, h => by
    obtain ⟨e1, h1, h2, h3⟩ := h d (List.mem_cons_self ..)
    have ih := lcG_map F fun x m => h x (List.mem_cons_of_mem d m)
    simp only [lcG, h1, h2, h3, ih, Option.bind_some, if_true, List.map_cons]
theorem lcG_fil {A : AF} {t : FB} {f : FD} {e : Ev} (T : D → Bool) (F : D → D) : ∀ {ds : List D}, (∀ d ∈ ds, ∃ e1, A d e = some e1 ∧ t e1 = some (T d) ∧ (T d = true → f e1 = some (F d))) → lcG A t f ds e = some ((ds.filter T).map F)
  | [], _ => rfl
  | d :: ds, h => by
    obtain ⟨e1, h1, h2, h3⟩ := h d (List.mem_cons_self ..)
    have ih := lcG_fil T F fun x m => h x (List.mem_cons_of_mem d m)
    cases c : T d with
    | true =>
      rw [c] at h2
      simp only [lcG, h1, h2, h3 c, ih, Option.bind_some, if_true, List.filter_cons, c, List.map_cons]
    | false =>
      rw [c] at h2
      simp only [lcG, h1, h2, ih, Option.bind_some, List.filter_cons, c, Bool.false_eq_true, if_false]
theorem allD_bools (bs : List Bool) : allD [.list (bs.map .bool)] = some (.bool (bs.all id)) := by simp only [allD, bools_map, Option.map_some]
theorem cutX_from {α : Type} (xs : List α) (i : Nat) : cutX xs (some (i : Int)) none = xs.drop i := by
  unfold cutX
  rw [HT.sIx_nat, HT.sIx_none]
  by_cases h : i ≤ xs.length
  · rw [Nat.min_eq_left h, List.take_of_length_le (by rw [List.length_drop]; exact Nat.le_refl _)]
  · rw [Nat.min_eq_right (by omega), List.drop_of_length_le (Nat.le_refl _), List.drop_of_length_le (by omega), List.take_nil]
theorem cutX_to {α : Type} (xs : List α) (i : Nat) : cutX xs none (some (i : Int)) = xs.take i := by
  unfold cutX
  rw [HT.sIx_nat, HT.sIx_none, List.drop_zero, Nat.sub_zero]
  by_cases h : i ≤ xs.length
  · rw [Nat.min_eq_left h]
  · rw [Nat.min_eq_right (by omega), List.take_of_length_le (Nat.le_refl _), List.take_of_length_le (by omega)]
theorem forG_ok {A : AF} {g : GF} {P : Fl → Prop} (I : Nat → Ev → Prop) : ∀ {ds : List D} {n : Nat} {e : Ev}, I n e →
    (∀ i d e, ds[i]? = some d → I (n + i) e → Okk (A d e) fun e1 => Okk (g e1) fun r => match r with | .nx e2 => I (n + i + 1) e2 | .ct e2 => I (n + i + 1) e2 | .bk e2 => P (.nx e2) | .rt x e2 => P (.rt x e2) | .rf x e2 => P (.rf x e2) | .ro x e2 => P (.ro x e2)) →
    (∀ e, I (n + ds.length) e → P (.nx e)) → Okk (forG A g ds e) P
  | [], n, e, h, _, fin => ⟨_, rfl, fin e h⟩
  | d :: ds, n, e, h, st, fin => by
    obtain ⟨e1, h1, r, h2, h3⟩ := st 0 d e rfl h
    have go : ∀ e2, I (n + 0 + 1) e2 → Okk (forG A g ds e2) P := fun e2 h4 => by
      refine forG_ok (n := n + 1) I (by simpa using h4) (fun i d' e' hd hi => ?_) (fun e' hi => fin e' (by rw [List.length_cons]; rw [show n + (ds.length + 1) = n + 1 + ds.length by omega]; exact hi))
      have := st (i + 1) d' e' (by simpa using hd) (by rw [show n + (i + 1) = n + 1 + i by omega]; exact hi)
      rw [show n + 1 + i + 1 = n + (i + 1) + 1 by omega]
      exact this
    simp only [forG, h1, h2, Option.bind_some]
    cases r with
    | nx e2 => exact go e2 h3
    | ct e2 => exact go e2 h3
    | bk e2 => exact ⟨_, rfl, h3⟩
    | rt x e2 => exact ⟨_, rfl, h3⟩
    | rf x e2 => exact ⟨_, rfl, h3⟩
    | ro x e2 => exact ⟨_, rfl, h3⟩
theorem eqv_int (i j : Int) : PyData.eqv (.int i) (.int j) = decide (i = j) := by
  simp only [PyData.eqv]
  rw [Bool.eq_iff_iff]
  simp
theorem eqD_int (i j : Int) : eqD (.int i) (.int j) = some (.bool (decide (i = j))) := by
  show some (PyData.bool (PyData.eqv _ _)) = _
  rw [eqv_int]
theorem neD_int (i j : Int) : neD (.int i) (.int j) = some (.bool (!decide (i = j))) := by
  show some (PyData.bool (!PyData.eqv _ _)) = _
  rw [eqv_int]
theorem allD_map {α : Type} (p : α → Bool) (xs : List α) : allD [.list (xs.map (PyData.bool ∘ p))] = some (.bool (xs.all p)) := by
  have := allD_bools (xs.map p)
  rw [List.map_map] at this
  rw [this, List.all_map]; rfl
theorem addD_int (i j : Int) : addD (.int i) (.int j) = some (.int (i + j)) := rfl
theorem subD_int (i j : Int) : subD (.int i) (.int j) = some (.int (i - j)) := rfl
theorem ltD_int (i j : Int) : ltD (.int i) (.int j) = some (.bool (decide (i < j))) := rfl
theorem leD_int (i j : Int) : leD (.int i) (.int j) = some (.bool (decide (i ≤ j))) := rfl
theorem gtD_int (i j : Int) : gtD (.int i) (.int j) = some (.bool (decide (i > j))) := rfl
theorem geD_int (i j : Int) : geD (.int i) (.int j) = some (.bool (decide (i ≥ j))) := rfl
theorem negD_int (i : Int) : negD (.int i) = some (.int (-i)) := rfl
theorem addD_list (xs ys : List D) (h : xs.length + ys.length ≤ LN) : addD (.list xs) (.list ys) = some (.list (xs ++ ys)) := if_pos h
theorem maxD_int (i j : Int) : maxD [.int i, .int j] = some (.int (if j > i then j else i)) := rfl
theorem minD_int (i j : Int) : minD [.int i, .int j] = some (.int (if j < i then j else i)) := rfl
theorem atI_lt {α : Type} {xs : List α} {i : Int} (h0 : 0 ≤ i) (h1 : i < xs.length) : ∃ x, atI xs i = some x ∧ x ∈ xs := by
  obtain ⟨j, rfl⟩ := Int.eq_ofNat_of_zero_le h0
  have hj : j < xs.length := by omega
  exact ⟨xs[j], atI_nat (List.getElem?_eq_getElem hj), List.getElem_mem hj⟩
theorem bits_le {i : Int} {k : Nat} (h : i.natAbs < 2 ^ k) : Builtin.Int.intBits i ≤ k := by
  unfold Builtin.Int.intBits
  split
  · exact Nat.zero_le _
  · rename_i n
    have : i.natAbs ≠ 0 := by simpa using n
    exact (Nat.log2_lt this).2 h
theorem modD_int {a b : Int} (h : 0 < b) : modD (.int a) (.int b) = some (.int (a % b)) := by
  refine (if_pos (show b ≠ 0 by omega)).trans ?_
  rw [Int.fmod_eq_emod_of_nonneg _ (by omega)]
theorem divD_int {a b : Int} (h : 0 < b) (h2 : b < 2 ^ 64) : divD (.int a) (.int b) = some (.int (a / b)) := by
  unfold divD
  exact if_pos ⟨h, Nat.lt_trans (log_of_lt (k := 64) (by decide) (by omega)) (by decide)⟩
theorem mulD_int {a b : Int} (h : a.natAbs < 2 ^ 400) (h2 : b.natAbs < 2 ^ 400) : mulD (.int a) (.int b) = some (.int (a * b)) := by
  have e1 := bits_le h
  have e2 := bits_le h2
  exact if_pos (show _ ≤ 134217728 by omega)
theorem powD_int {a : Int} {n : Nat} (h : a.natAbs < 2 ^ 400) (hn : n ≤ 100) : powD (.int a) (.int n) = some (.int (a ^ n)) := by
  have e1 := bits_le h
  have e2 : Builtin.Int.intBits a * n ≤ 400 * 100 := Nat.mul_le_mul e1 hn
  exact if_pos ⟨Int.natCast_nonneg n, show _ ≤ 134217728 by rw [Int.natAbs_natCast]; omega⟩
theorem rngD_get {lo : Int} {n k : Nat} {d : D} (h : (rngD lo n)[k]? = some d) : k < n ∧ d = .int (lo + (k : Int)) := by
  unfold rngD at h
  rw [List.getElem?_map] at h
  by_cases hk : k < n
  · rw [List.getElem?_range hk] at h
    injection h with h
    exact ⟨hk, h.symm⟩
  · rw [List.getElem?_eq_none (by simp; omega)] at h
    cases h
theorem rngD_len {lo : Int} {n : Nat} : (rngD lo n).length = n := by simp [rngD]
theorem fine_int40 {k} {i : Int} (h : i.natAbs < 10 ^ 40) : Fine 140 k (.int i) := by
  have hl : i.natAbs.log2 < 139 := log_of_lt (by decide) (Nat.lt_trans h (by decide +kernel))
  have f := fine_int (k := k) (Nat.lt_trans h (by decide +kernel))
  refine ⟨f.lv, ?_, f.dp, f.sh, f.cl⟩
  simp only [PyData.weight]
  split <;> omega
def FL' (w k n : Nat) (xs : List D) : Prop := (∀ x ∈ xs, Fine w k x) ∧ xs.length ≤ n
theorem FL'.at {w k n : Nat} {xs : List D} (hx : FL' w k n xs) {i : Int} (h0 : 0 ≤ i) (h1 : i < xs.length) : ∃ x, ixD (.list xs) (.int i) = some x ∧ Fine w k x := by
  obtain ⟨x, h, m⟩ := atI_lt h0 h1
  exact ⟨x, h, hx.1 x m⟩
theorem FL'.nil {w k : Nat} : FL' w k 0 [] := ⟨fun x m => absurd m (List.not_mem_nil), Nat.le_refl _⟩
theorem FL'.cons {w k n : Nat} {x : D} {xs : List D} (h : Fine w k x) (hx : FL' w k n xs) : FL' w k (n + 1) (x :: xs) := ⟨fun y m => by
  rcases List.mem_cons.1 m with rfl | m
  · exact h
  · exact hx.1 y m, by rw [List.length_cons]; exact Nat.succ_le_succ hx.2⟩
theorem FL'.list {w k n : Nat} {xs : List D} (h : FL' w k n xs) {w' k' : Nat} (hw : n * (w + 1) ≤ w') (hk : k + 1 ≤ k') : Fine w' k' (.list xs) := (fine_list h.1 h.2).mono hw hk
theorem FL'.tup {w k n : Nat} {xs : List D} (h : FL' w k n xs) {w' k' : Nat} (hw : n * (w + 1) ≤ w') (hk : k + 1 ≤ k') : Fine w' k' (.tuple xs) := (fine_tup h.1 h.2).mono hw hk
end TL
set_option Elab.async false
set_option linter.all false
set_option maxRecDepth 100000
namespace TL
open PySem PySem.Spec L2
open PyProof.Rows hiding St
section
variable {K : PySem.W.Frag} {Hs H : Hp} {e : Ev} {σ : L2.St} {fp : Fp}
theorem Rl.chgG (r : Rl K Hs H e σ fp) {i : Nat} {s : SV} {a : Addr} {u : HO} (hi : i < e.length) (mi : a ∈ fp i) (h : ∀ o, σ[i]? = some o → SRep K Hs (upd H a u) s o (fp i)) : Rl K Hs (upd H a u) (e.set i s) σ fp := by
  refine ⟨by simp [r.len], fun j t g => ?_, fun j hj => r.out j (by simpa using hj), r.nd, r.ap, r.fr, fun b o g => ?_⟩
  · by_cases q : j = i
    · subst q
      rw [List.getElem?_set_self hi] at g
      cases g
      obtain ⟨o, k1, _⟩ := r.pl j _ (List.getElem?_eq_getElem hi)
      exact ⟨o, k1, h o k1⟩
    · rw [List.getElem?_set_ne (Ne.symm q)] at g
      obtain ⟨o, k1, k2⟩ := r.pl j t g
      refine ⟨o, k1, k2.keep (Same.refl _) fun b mb o h => ?_⟩
      rw [upd_ne (fun z => by subst z; exact q (r.ap j i b mb mi))]; exact h
  · rw [upd_ne (ne_of_none g (r.fr i a mi))]; exact r.sub _ _ g
end
def keyD : D → Option Key
  | .int i => some (.inl i)
  | .str z => some (.inr z)
  | _ => none
def odE (i : Nat) (e : Ev) : Option (List (Key × D)) := match e[i]? with
  | some (.od kvs) => some kvs
  | _ => none
theorem odE_eq {i : Nat} {e : Ev} {xs : List (Key × D)} (h : odE i e = some xs) : e[i]? = some (.od xs) := by
  unfold odE at h
  cases es : e[i]? with
  | none => rw [es] at h; cases h
  | some s =>
    rw [es] at h
    cases s <;> simp only at h <;> try contradiction
    injection h with h; rw [h]
def lookD (kvs : List (Key × D)) (k : Key) : Option D := (kvs.find? fun kv => decide (kv.1 = k)).map (·.2)
def storeD (kvs : List (Key × D)) (k : Key) (d : D) : List (Key × D) := if (kvs.any fun kv => decide (kv.1 = k)) = true then kvs.map (fun kv => if kv.1 = k then (kv.1, d) else kv) else kvs ++ [(k, d)]
abbrev DR (K : PySem.W.Frag) (Hs : Hp) (vs : List (Key × V)) (kvs : List (Key × D)) : Prop := Paired (fun (p : Key × V) (q : Key × D) => p.1 = q.1 ∧ Rp K Hs p.2 q.2) vs kvs
theorem keyD_rp {K : PySem.W.Frag} {H : Hp} {v : V} {d : D} {k : Key} (h : keyD d = some k) (r : Rp K H v d) : v = kV k := by
  cases r <;> simp only [keyD] at h <;> try contradiction
  all_goals (injection h with h; subst h; rfl)
theorem dr_len {K : PySem.W.Frag} {Hs : Hp} : ∀ {vs : List (Key × V)} {kvs : List (Key × D)}, DR K Hs vs kvs → vs.length = kvs.length
  | _, _, .nil => rfl
  | _, _, .cons _ r => by simp [dr_len r]
theorem dr_any {K : PySem.W.Frag} {Hs : Hp} {k : Key} : ∀ {vs : List (Key × V)} {kvs : List (Key × D)}, DR K Hs vs kvs → (vs.any fun kv => decide (kv.1 = k)) = kvs.any fun kv => decide (kv.1 = k)
  | _, _, .nil => rfl
  | _, _, .cons h r => by rw [List.any_cons, List.any_cons, dr_any r, h.1]
theorem dr_look {K : PySem.W.Frag} {Hs : Hp} {k : Key} : ∀ {vs : List (Key × V)} {kvs : List (Key × D)}, DR K Hs vs kvs → Rp K Hs ((valV vs k).getD .non) ((lookD kvs k).getD .none)
  | _, _, .nil => .n
  | p :: vs, q :: kvs, .cons h r => by
    by_cases e : q.1 = k
    · have e' : p.1 = k := h.1.trans e
      rw [show valV (p :: vs) k = some p.2 by simp [valV, List.find?_cons, e'], show lookD (q :: kvs) k = some q.2 by simp [lookD, List.find?_cons, e]]
      exact h.2
    · have e' : ¬ p.1 = k := fun z => e (h.1.symm.trans z)
      rw [show valV (p :: vs) k = valV vs k by simp [valV, List.find?_cons, e'], show lookD (q :: kvs) k = lookD kvs k by simp [lookD, List.find?_cons, e]]
      exact dr_look r
theorem dr_map {K : PySem.W.Frag} {Hs : Hp} {k : Key} {v : V} {d : D} (g : Rp K Hs v d) : ∀ {vs : List (Key × V)} {kvs : List (Key × D)}, DR K Hs vs kvs → DR K Hs (vs.map fun kv => if kv.1 = k then (kv.1, v) else kv) (kvs.map fun kv => if kv.1 = k then (kv.1, d) else kv)
  | _, _, .nil => .nil
  | p :: vs, q :: kvs, .cons h r => by
    refine .cons ?_ (dr_map g r)
    dsimp only
    by_cases e : q.1 = k
    · rw [if_pos e, if_pos (h.1.trans e)]; exact ⟨h.1, g⟩
    · rw [if_neg e, if_neg (fun z => e (h.1.symm.trans z))]; exact h
theorem dr_app {K : PySem.W.Frag} {Hs : Hp} {k : Key} {v : V} {d : D} (g : Rp K Hs v d) : ∀ {vs : List (Key × V)} {kvs : List (Key × D)}, DR K Hs vs kvs → DR K Hs (vs ++ [(k, v)]) (kvs ++ [(k, d)])
  | _, _, .nil => .cons ⟨rfl, g⟩ .nil
  | _, _, .cons h r => .cons h (dr_app g r)
theorem dr_put {K : PySem.W.Frag} {Hs : Hp} {k : Key} {v : V} {d : D} (g : Rp K Hs v d) {vs : List (Key × V)} {kvs : List (Key × D)} (r : DR K Hs vs kvs) : DR K Hs (putK vs k v) (storeD kvs k d) := by
  unfold putK storeD
  rw [dr_any r]
  split
  · exact dr_map g r
  · exact dr_app g r
theorem dr_sm {K : PySem.W.Frag} {Hs Hs' : Hp} {vs : List (Key × V)} {kvs : List (Key × D)} (r : DR K Hs vs kvs) (e : Same Hs Hs') : DR K Hs' vs kvs := paired_imp r fun p q _ z => ⟨z.1, z.2.sm e⟩

def gDict0 (i : Nat) : GF := fun e => if i < e.length then some (.nx (e.set i (.od []))) else none
def gDPut (i : Nat) (f k : FD) : GF := fun e => (f e).bind fun d => ((k e).bind keyD).bind fun n => (odE i e).bind fun kvs => if kvs.length < LN then some (.nx (e.set i (.od (storeD kvs n d)))) else none
def fGetO (i : Nat) (k : FD) : FD := fun e => ((k e).bind keyD).bind fun n => (odE i e).map fun kvs => (lookD kvs n).getD .none
def fIxOd (i : Nat) (k : FD) : FD := fun e => ((k e).bind keyD).bind fun n => (odE i e).bind fun kvs => lookD kvs n
section
variable {X : Cx} {kp : List Nat} {a b c : Expr} {es : List Expr} {f g : FD} {fl : FL} {pos p apos cpos : Pos} {x : Str}
theorem sj_dict0 (i : Nat) {pd : Pos} (hk : kp.contains i = false) (nd : X.N.Nodup) (hi : X.N[i]? = some x) (hx : Loc X.env.scope x) (hs : swapsWith (.Dict [] [] pd) (some (.Name x p)) pos.line X.env = pure false := by rfl) (hf : X.fn x = true ∨ X.env.scope.names.lookup x = some .local := by first | exact .inl rfl | exact .inr rfl | assumption) :
    SJ X kp (.Assign [.Name x p] (.Dict [] [] pd) pos) (gDict0 i) := by
  intro env σ fp Hs H r D' rl e q
  unfold gDict0 at e
  split at e <;> try contradiction
  rename_i hl
  injection e with e; subst e
  refine ws_of (ps_set nd hi hx pe_dnewK hs hf) fun p hp => ?_
  have g := Grow.own (o := .dK []) rl.sub hp
  exact q _ _ Hs _ ((g.rl rl).put (i := i) (s := .od []) hl ⟨p, [], rfl, rfl, upd_same, .nil⟩ (by simp) (fun j a _ m => by
    have : a = p := by simpa using m
    subst this; exact rl.free hp j) (fun a m => by
    have : a = p := by simpa using m
    subst this; exact rl.sub.free hp)) (adv_ow g.adv hp) (Kp.set hk)
theorem sj_dput (i : Nat) (ha : PV X a f) (hb : PV X b g) (hu : X.A.units + 1 < cLine) (hN : X.N[i]? = some x := by rfl) (hv : Vis X.env.scope x := by first | exact Or.inl rfl | exact Or.inr (Or.inl rfl) | exact Or.inr (Or.inr rfl)) (hd : (x == ("__debug__" : Str)) = false := by decide)
    (hcd : (x == ("__classdict__" : Str)) = false := by decide) {spos : Pos} (hs : swapsWith a (some (.Subscript (.Name x p) b spos)) pos.line X.env = pure false := by rfl) : SJ X kp (.Assign [.Subscript (.Name x p) b spos] a pos) (gDPut i f g) := by
  intro env σ fp Hs H r D' rl e q
  obtain ⟨d, e1, e⟩ := bind2 (γ := Unit) e
  obtain ⟨n, e2, e⟩ := bind2 (γ := Unit) e
  obtain ⟨kvs, es, e⟩ := bind2 (γ := Unit) e
  obtain ⟨dn, e2, e3⟩ := bind2 (γ := Unit) e2
  split at e <;> try contradiction
  rename_i hz
  injection e with e; subst e
  have es := odE_eq es
  have hi : i < env.length := (List.getElem?_eq_some_iff.mp es).1
  obtain ⟨o, k1, l, vs, rfl, k2, k3, k4⟩ := rl.pl i _ es
  have mi : l ∈ fp i := by rw [k2]; simp
  refine ws_of (ps_dput hu (pe_var hN hv hd hcd) pe_we pe_we hs) (ha env σ fp Hs H d _ rl e1 fun Hs1 H1 v g1 r1 => ⟨.ref l, k1, hb env σ fp Hs1 H1 dn _ (g1.rl rl) e2 fun Hs2 H2 u g2 r2 => ?_⟩)
  have g := g1.trans g2
  have hu := keyD_rp e3 r2
  subst hu
  refine ⟨l, _, rfl, DPut.k (g.keep _ _ k3) (by rw [ln_eq, dr_len k4]; exact hz), ?_⟩
  exact q σ fp Hs2 _ ((g.rl rl).chgG hi mi fun o z => by
    rw [k1] at z; injection z with z; subst z
    exact ⟨l, _, rfl, k2, upd_same, dr_put (r1.sm g2.same) (dr_sm k4 g.same)⟩) (g.adv.trans (adv_chg mi)) Kp.refl
theorem pv_get1 (i : Nat) (hu : X.A.units + 1 < cLine) (ha : PV X a f) (m : M1 X (.Name x p) "get" apos a cpos := by exact ⟨by rfl, by rfl, by rfl, by rfl⟩) (hN : X.N[i]? = some x := by rfl) (hv : Vis X.env.scope x := by first | exact Or.inl rfl | exact Or.inr (Or.inl rfl) | exact Or.inr (Or.inr rfl)) (hd : (x == ("__debug__" : Str)) = false := by decide)
    (hcd : (x == ("__classdict__" : Str)) = false := by decide) : PV X (.Call (.Attribute (.Name x p) "get" apos) [a] [] cpos) (fGetO i f) := by
  intro env σ fp Hs H d Q rl e q
  obtain ⟨n, e2, e⟩ := bind2 (γ := Unit) e
  obtain ⟨dn, e2, e3⟩ := bind2 (γ := Unit) e2
  obtain ⟨kvs, es, e⟩ := prod2 (β := Unit) e
  subst e
  obtain ⟨o, k1, l, vs, rfl, k2, k3, k4⟩ := rl.pl i _ (odE_eq es)
  refine we_of (pe_dget1 hu (pe_var hN hv hd hcd) pe_we m) ⟨.ref l, k1, l, rfl, .inl ⟨vs, .inl k3⟩, ha env σ fp Hs H dn _ rl e2 fun Hs1 H1 u g1 r1 => ?_⟩
  have hu := keyD_rp e3 r1
  subst hu
  exact ⟨_, DGet.k (g1.keep _ _ k3), (q.go g1).at g1.sub (dr_look (dr_sm k4 g1.same))⟩
def fStar (f : FD) (r : FL) : FL := fun e => (f e).bind fun x => (r e).bind fun xs => match x with
  | .list ds => some (ds ++ xs)
  | .tuple ds => some (ds ++ xs)
  | _ => none
theorem pav_star (ha : PV X a f) (hr : PAV X es fl) (hs : starEach (.Starred a p :: es) X.env = (true, eval a X.env) :: starEach es X.env := by rfl) : PAV X (.Starred a p :: es) (fStar f fl) := by
  intro env σ fp Hs H d Q rl e q
  obtain ⟨x, e1, e⟩ := bind2 (γ := Unit) e
  obtain ⟨xs, e2, e⟩ := bind2 (γ := Unit) e
  refine wa_of (StX.pa_star pe_we pa_wa hs) (ha env σ fp Hs H x _ rl e1 fun Hs1 H1 v g1 r1 => ?_)
  cases x <;> simp only at e <;> try contradiction
  · injection e with e; subst e
    cases r1 with
    | @l l vs ds h rr => exact ⟨l, vs, rfl, .inr (same_rd g1.sub h), hr env σ fp Hs1 H1 xs _ (g1.rl rl) e2 fun Hs2 H2 ws g2 r2 => q Hs2 H2 _ (g1.trans g2) ((rr.sm g2.same).app r2)⟩
  · injection e with e; subst e
    cases r1 with
    | @t l vs ds h rr => exact ⟨l, vs, rfl, .inl (same_seqT g1.sub h), hr env σ fp Hs1 H1 xs _ (g1.rl rl) e2 fun Hs2 H2 ws g2 r2 => q Hs2 H2 _ (g1.trans g2) ((rr.sm g2.same).app r2)⟩
end
end TL
set_option Elab.async false
set_option linter.all false
set_option maxRecDepth 100000
namespace TL
open PySem PySem.Spec L2
open PyProof.Rows hiding St
def permL {α : Type} (z : α) (pm : List Nat) (xs : List α) : List α := pm.map fun i => xs.getD i z
def KwB (fd : FuncData) (ps ks : List Str) (pm : List Nat) : Prop := ∀ (s : Shared) (ws : List Value), ws.length = ks.length → BindsTo s fd ⟨[], ks.zip ws⟩ (ps.zip (permL .none pm ws))
structure CalK (P : Program) (w : World) (K : PySem.W.Frag) (mg : Str → Option Value) (base : Heap) (k : Nat) (x : Str) (ps : List Str) (sp : Sp) (kss : List (List Str × List Nat)) : Prop where
  ex : ∃ (f : Addr) (fd : FuncData), FnG P w K mg base CX0 k f fd ps sp ∧ mg x = some (.ref f) ∧ PySem.W.keepIn K (.ref f) = true ∧ Binds K fd ps [] ∧ ∀ q ∈ kss, KwB fd ps q.1 q.2
section
variable {X : Cx} {CX : CXT} {k : Nat} {f : Addr} {fd : FuncData} {ps ks : List Str} {pm : List Nat} {sp : Sp} {E : XK} {x : Str} {p pos : Pos} {kws : List Keyword} {tk : TA} {fl : FL} {n : Nat} {m : List D → Option D} {ml : List D → Option (List D)}
def fCallK (n : Nat) (pm : List Nat) (g : List D → Option D) (a : FL) : FD := fun e => (a e).bind fun ds => if ds.length = n then g (permL .none pm ds) else none
def fCallFK (n : Nat) (pm : List Nat) (g : List D → Option (List D)) (a : FL) : FL := fun e => (a e).bind fun ds => if ds.length = n then g (permL .none pm ds) else none
end
def ooE (i : Nat) (e : Ev) : Option (List (List D)) := match e[i]? with
  | some (.oo xs) => some xs
  | _ => none
theorem ooE_eq {i : Nat} {e : Ev} {xs : List (List D)} (h : ooE i e = some xs) : e[i]? = some (.oo xs) := by
  unfold ooE at h
  cases es : e[i]? with
  | none => rw [es] at h; cases h
  | some s =>
    rw [es] at h
    cases s <;> simp only at h <;> try contradiction
    injection h with h; rw [h]
abbrev OR (K : PySem.W.Frag) (Hs H : Hp) (as : List Addr) (xss : List (List D)) : Prop := Paired (fun b xs => ∃ vs, H b = some (.lst vs) ∧ RpL K Hs vs xs) as xss
theorem or_len {K : PySem.W.Frag} {Hs H : Hp} : ∀ {as : List Addr} {xss : List (List D)}, OR K Hs H as xss → as.length = xss.length
  | _, _, .nil => rfl
  | _, _, .cons _ r => by simp [or_len r]
theorem or_get {K : PySem.W.Frag} {Hs H : Hp} : ∀ {as : List Addr} {xss : List (List D)} {j : Nat} {xs : List D}, OR K Hs H as xss → xss[j]? = some xs → ∃ b vs, as[j]? = some b ∧ H b = some (.lst vs) ∧ RpL K Hs vs xs
  | _, _, _, _, .nil, e => by simp at e
  | a :: as, x :: xss, 0, xs, .cons h r, e => by
    simp only [List.getElem?_cons_zero, Option.some.injEq] at e; subst e
    obtain ⟨vs, h1, h2⟩ := h
    exact ⟨a, vs, rfl, h1, h2⟩
  | _ :: _, _ :: _, j + 1, xs, .cons h r, e => by simpa using or_get r (by simpa using e)
theorem or_up {K : PySem.W.Frag} {Hs H Hs' H' : Hp} {as : List Addr} {xss : List (List D)} (r : OR K Hs H as xss) (s : Same Hs Hs') (k : ∀ a ∈ as, ∀ o, H a = some o → H' a = some o) : OR K Hs' H' as xss := paired_imp r fun a x m ⟨vs, h1, h2⟩ => ⟨vs, k a m _ h1, h2.sm s⟩
theorem or_set {K : PySem.W.Frag} {Hs H : Hp} {b : Addr} {us : List V} {ys : List D} (hu : RpL K Hs us ys) : ∀ {as : List Addr} {xss : List (List D)} {j : Nat}, OR K Hs H as xss → as.Nodup → as[j]? = some b → OR K Hs (upd H b (.lst us)) as (xss.set j ys)
  | _, _, _, .nil, _, e => by simp at e
  | a :: as, x :: xss, 0, .cons h r, nd, e => by
    simp only [List.getElem?_cons_zero, Option.some.injEq] at e; subst e
    refine .cons ⟨us, upd_same, hu⟩ (or_up r (Same.refl _) fun c m o hc => ?_)
    rw [upd_ne (fun z => by subst z; exact (List.nodup_cons.mp nd).1 m)]; exact hc
  | a :: as, x :: xss, j + 1, .cons h r, nd, e => by
    have e' : as[j]? = some b := by simpa using e
    have ne : a ≠ b := fun z => by subst z; exact (List.nodup_cons.mp nd).1 (List.mem_of_getElem? e')
    obtain ⟨vs, h1, h2⟩ := h
    exact .cons ⟨vs, by rw [upd_ne ne]; exact h1, h2⟩ (or_set hu r (List.nodup_cons.mp nd).2 e')
theorem or_told {K : PySem.W.Frag} {Hs H Hs' : Hp} (s : Same Hs Hs') : ∀ {as : List Addr} {xss : List (List D)}, OR K Hs H as xss → (∀ a ∈ as, Hs' a = H a) → RpL K Hs' (as.map V.ref) (xss.map PyData.list)
  | _, _, .nil, _ => .nil
  | _, _, .cons ⟨vs, h1, h2⟩ r, k => .cons (.l (.inl (.inl (by rw [k _ List.mem_cons_self]; exact h1))) (h2.sm s)) (or_told s r fun a m => k a (List.mem_cons_of_mem _ m))

def frzOE (i : Nat) (e : Ev) : Option Ev := (ooE i e).map fun xss => e.set i (.sh (.list (xss.map .list)))
def gFrzO (i : Nat) (g : GF) : GF := fun e => (frzOE i e).bind g
open Classical in
theorem rl_frzO {K : PySem.W.Frag} {env : Ev} {σ : L2.St} {fp : Fp} {Hs H : Hp} {i : Nat} {xss : List (List D)} (rl : Rl K Hs H env σ fp) (es : env[i]? = some (.oo xss)) :
    ∃ Hs', Rl K Hs' H (env.set i (.sh (.list (xss.map .list)))) σ (pt fp i []) ∧ Adv fp Hs H (pt fp i []) Hs' H := by
  obtain ⟨o, e1, a, as, rfl, e3, e4, e5⟩ := rl.pl i _ es
  have hi : i < env.length := (List.getElem?_eq_some_iff.mp es).1
  refine ⟨fun b => if b ∈ fp i then H b else Hs b, ?_, ?_⟩
  · have sm : Same Hs (fun b => if b ∈ fp i then H b else Hs b) := fun b u h => by
      show (if b ∈ fp i then H b else Hs b) = _
      split
      · rename_i m; rw [rl.fr i b m] at h; cases h
      · exact h
    have sb : Same (fun b => if b ∈ fp i then H b else Hs b) H := fun b u h => by
      have h : (if b ∈ fp i then H b else Hs b) = some u := h
      split at h
      · exact h
      · exact rl.sub b u h
    refine ⟨by simp [rl.len], fun j s h => ?_, fun j hj => ?_, fun j => ?_, fun j k b m1 m2 => ?_, fun j b m => ?_, sb⟩
    · by_cases q : j = i
      · subst q
        rw [List.getElem?_set_self hi] at h
        cases h
        refine ⟨_, e1, by rw [pt_same], _, rfl, .l (.inl (.inl (?_ : _ = some (HO.lst (as.map V.ref))))) (or_told sm e5 fun b m => if_pos (by rw [e3]; exact List.mem_cons_of_mem _ m))⟩
        show (if a ∈ fp j then H a else Hs a) = _
        rw [if_pos (by rw [e3]; exact List.mem_cons_self), e4]
      · rw [List.getElem?_set_ne (Ne.symm q)] at h
        obtain ⟨o', k1, k2⟩ := rl.pl j s h
        exact ⟨o', k1, by rw [pt_ne q]; exact k2.keep sm fun _ _ _ h => h⟩
    · by_cases q : j = i
      · rw [q, pt_same]
      · rw [pt_ne q]; exact rl.out j (by simpa using hj)
    · by_cases q : j = i
      · rw [q, pt_same]; exact List.nodup_nil
      · rw [pt_ne q]; exact rl.nd j
    · by_cases q : j = i
      · rw [q, pt_same] at m1; exact (List.not_mem_nil m1).elim
      · by_cases q' : k = i
        · rw [q', pt_same] at m2; exact (List.not_mem_nil m2).elim
        · rw [pt_ne q] at m1; rw [pt_ne q'] at m2; exact rl.ap j k b m1 m2
    · by_cases q : j = i
      · rw [q, pt_same] at m; exact (List.not_mem_nil m).elim
      · rw [pt_ne q] at m
        show (if b ∈ fp i then H b else Hs b) = none
        rw [if_neg (fun m' => q (rl.ap j i b m m'))]; exact rl.fr j b m
  · refine ⟨fun b u h => ?_, fun _ _ h _ => h, fun _ h => h, Adv.pt0 (Hs := Hs) (H := H) |>.own, fun b o h => ?_⟩
    · show (if b ∈ fp i then H b else Hs b) = _
      split
      · rename_i m; rw [rl.fr i b m] at h; cases h
      · exact h
    · have h : (if b ∈ fp i then H b else Hs b) = some o := h
      split at h
      · rename_i m; exact .inr (.inr ⟨i, m⟩)
      · exact .inl ⟨o, h⟩
section
variable {X : Cx} {kp : List Nat} {st : Stmt} {bd : List Stmt} {g : GF}
theorem sj_frzO (i : Nat) (hk : kp.contains i = false) (h1 : SJ X kp st g) : SJ X kp st (gFrzO i g) := by
  intro env σ fp Hs H r D' rl e q
  obtain ⟨env1, e1, e⟩ := bind2 (γ := Unit) e
  obtain ⟨xss, es, e1⟩ := prod2 (β := Unit) e1
  subst e1
  obtain ⟨Hs', r1, a1⟩ := rl_frzO rl (ooE_eq es)
  exact h1 _ σ _ _ H r D' r1 e (FlK.go r q a1 (kp_frz hk))
end
def gApp2 (i : Nat) (k f : FD) : GF := fun e => ((k e).bind asN).bind fun n => (ooE i e).bind fun xss => (ixN xss.length n).bind fun j => (f e).bind fun d => (xss[j]?).bind fun xs => if xs.length < LN then some (.nx (e.set i (.oo (xss.set j (xs ++ [d]))))) else none
section
variable {X : Cx} {kp : List Nat} {a b : Expr} {f g : FD} {pos p apos cpos p2 : Pos} {x : Str}
theorem sj_app2 (i : Nat) {pos' : Pos} (hb : PV X b g) (ha : PV X a f) (hix : PlainIx b) (hN : X.N[i]? = some x := by rfl) (hv : Vis X.env.scope x := by first | exact Or.inl rfl | exact Or.inr (Or.inl rfl) | exact Or.inr (Or.inr rfl)) (hd : (x == ("__debug__" : Str)) = false := by decide)
    (hcd : (x == ("__classdict__" : Str)) = false := by decide)
    (hbase : attributeBase (.Subscript (.Name x p) b p2) "append" X.env (eval (.Subscript (.Name x p) b p2) X.env) = eval (.Subscript (.Name x p) b p2) X.env := by rfl)
    (hfew : ((backTo cpos (starEach [a] X.env)).all (fun x => !x.1) && (backToKw cpos (keywordEach [] X.env)).all (fun x => x.1.isSome) && decide (([a] : List Expr).length + ([] : List Keyword).length + (if ([] : List Keyword).isEmpty then 0 else 1) < 30)) = true := by rfl)
    (hline : (apos.endLine == cpos.line) = true := by rfl) (hs : starEach [a] X.env = (false, eval a X.env) :: starEach [] X.env := by rfl) (hpl : (backTo cpos (starEach [] X.env)).any (·.1) = false := by rfl)
    (hw : swapsWith (.Call (.Attribute (.Subscript (.Name x p) b p2) "append" apos) [a] [] cpos) none pos'.line X.env = pure false := by rfl) :
    SJ X kp (.Expr (.Call (.Attribute (.Subscript (.Name x p) b p2) "append" apos) [a] [] cpos) pos') (gApp2 i g f) := by
  intro env σ fp Hs H r D' rl e q
  obtain ⟨n, e0, e⟩ := bind2 (γ := Unit) e
  obtain ⟨dn, e1, e1'⟩ := bind2 (γ := Unit) e0
  have en := asN_eq e1'
  subst en
  obtain ⟨xss, es, e⟩ := bind2 (γ := Unit) e
  have es := ooE_eq es
  obtain ⟨j, ej, e⟩ := bind2 (γ := Unit) e
  obtain ⟨d, e2, e⟩ := bind2 (γ := Unit) e
  obtain ⟨xs, ex, e⟩ := bind2 (γ := Unit) e
  split at e <;> try contradiction
  rename_i hz
  injection e with e; subst e
  have hi : i < env.length := (List.getElem?_eq_some_iff.mp es).1
  obtain ⟨o, k1, l, as, rfl, k2, k3, k4⟩ := rl.pl i _ es
  obtain ⟨bb, vs, q1, q2, q3⟩ := or_get k4 ex
  have mb : bb ∈ fp i := by rw [k2]; exact List.mem_cons_of_mem _ (List.mem_of_getElem? q1)
  have nd : (l :: as).Nodup := by rw [← k2]; exact rl.nd i
  refine ws_of (ps_expr (pe_bm PySem.F.plainAttrs_list PySem.F.slot_list_append PySem.F.type_list_append mt_append (pe_ix ix_list (pe_var hN hv hd hcd) pe_we hix) (pa_cons pe_we pa_nil hs) hbase hfew hline hs hpl) hw) ?_
  refine ⟨.ref l, k1, hb env σ fp Hs H _ _ rl e1 fun Hs1 H1 u g1 r1 => ?_⟩
  cases r1
  refine ⟨l, as.map V.ref, n, .ref bb, rfl, rfl, SqL.of (g1.keep _ _ k3), ?_, .inl ⟨rfl, _, SqL.of (g1.keep _ _ q2)⟩, ha env σ fp Hs1 H1 d _ (g1.rl rl) e2 fun Hs2 H2 v g2 r2 => ?_⟩
  · unfold atI
    rw [List.length_map, or_len k4, ej]
    show (as.map V.ref)[j]? = _
    rw [List.getElem?_map, q1]; rfl
  · have g := g1.trans g2
    refine ⟨bb, vs, v, rfl, rfl, g.keep _ _ q2, by rw [ln_eq, q3.len]; exact hz, ?_⟩
    refine q σ fp Hs2 _ ((g.rl rl).chgG hi mb fun o z => ?_) (g.adv.trans (adv_chg mb)) Kp.refl
    rw [k1] at z; injection z with z; subst z
    have nl : l ≠ bb := fun z => by subst z; exact (List.nodup_cons.mp nd).1 (List.mem_of_getElem? q1)
    refine ⟨l, as, rfl, k2, by rw [upd_ne nl]; exact g.keep _ _ k3, ?_⟩
    exact or_set ((q3.sm g.same).app (.one r2)) (or_up k4 g.same fun a _ o h => g.keep a o h) (List.nodup_cons.mp nd).2 q1
end
end TL
set_option Elab.async false
set_option linter.all false
set_option maxRecDepth 100000
namespace TL
open PySem PySem.Spec L2
open PyProof.Rows hiding St
theorem Grow.none {Hs H Hs' H' : Hp} (g : Grow Hs H Hs' H') {a : Addr} {o : HO} (h : Hs a = Option.none) (h' : H a = some o) : Hs' a = Option.none := by
  cases z : Hs' a with
  | none => rfl
  | some u =>
    rcases g.fre a u z with ⟨o', z⟩ | z
    · rw [h] at z; cases z
    · rw [h'] at z; cases z

def lcO (A : AF) : List D → Ev → Option (List (List D))
  | [], _ => some []
  | d :: ds, e => (A d e).bind fun _ => (lcO A ds e).bind fun r => some ([] :: r)
def fLcO (vs : List Nat) (fi : FL) (A : AF) : Ev → Option (List (List D)) := fun e => (fi e).bind fun ds => if ds.length ≤ LN ∧ (vs.all fun v => decide (v < e.length)) = true then lcO A ds (wipeE e vs) else none
def PoO (K : PySem.W.Frag) (Hs H : Hp) (xss : List (List D)) (Q : VK) : Prop := ∀ Hs' H' p as, Grow Hs H Hs' H' → (∀ a ∈ p :: as, H a = Option.none ∧ Hs' a = Option.none) → (p :: as).Nodup → H' p = some (.lst (as.map V.ref)) → OR K Hs' H' as xss → Q (.ref p) H'
theorem lco_main {X : Cx} {tg : Expr} {epos : Pos} {scope : Scope} {vs : List Nat} {sl : List Nat} {wi : TI} {fi : FL} {A : AF}
    (ki : ∀ (env : Ev) (σ : L2.St) (fp : Fp) (Hs H : Hp) (ds : List D) (R : It → Hp → Prop), Rl X.K Hs H env σ fp → fi env = some ds → (∀ Hs' H' J, Grow Hs H Hs' H' → ItJ X.K Hs' J ds → R J H') → wi σ H R)
    (hsl : (sl.all fun j => vs.contains j) = true)
    (hg : ∀ (s : Shared) (H : Hp) (C : Addr) (cl : List (Str × Addr)) (fp : List Addr), TJ (X.blk s H scope (compEnvC scope cl C X.env) fp) tg sl A)
    {env : Ev} {σ : L2.St} {fp : Fp} {Hs H : Hp} {xss : List (List D)} {Q : VK} (rl : Rl X.K Hs H env σ fp) (e : fLcO vs fi A env = some xss) (q : PoO X.K Hs H xss Q) : tLc wi (gFam X scope tg) (tFam X scope []) (eFam X scope (.List [] epos)) vs σ H Q := by
  obtain ⟨ds, e1, e⟩ := bind2 (γ := Unit) e
  split at e <;> try contradiction
  rename_i hz
  obtain ⟨hz, hv⟩ := hz
  have hv' : ∀ v ∈ vs, v < env.length := fun v m => by simpa using List.all_eq_true.mp hv v m
  have hsl' : ∀ j ∈ sl, j ∈ vs := fun j m => List.contains_iff_mem.mp (List.all_eq_true.mp hsl j m)
  refine ki env σ fp Hs H ds _ rl e1 fun Hs1 H1 J g1 itj L hL => ?_
  have rl1 := g1.rl rl
  have rw1 := rl1.wipe _ hv'
  have hL0 : H L = none := g1.keep.free hL
  refine ⟨fun i m H' => m + i = ds.length ∧ ∃ Hs' as dn rest, Grow Hs H Hs' H' ∧ Same Hs1 Hs' ∧ H' L = some (.lst (as.map V.ref)) ∧ (∀ a ∈ L :: as, H a = Option.none ∧ Hs' a = Option.none) ∧ (L :: as).Nodup ∧ OR X.K Hs' H' as dn ∧ as.length ≤ i ∧ lcO A (ds.drop i) (wipeE env vs) = some rest ∧ dn ++ rest = xss ∧ Rl X.K Hs' H' (wipeE env vs) (wipe σ vs) (wipeF fp vs),
    ⟨ds.length, rfl, Hs1, [], [], xss, ⟨g1.same, g1.keep.trans (same_new hL), g1.sub.trans (same_new hL), g1.fre⟩, Same.refl _, upd_same, fun a m => ?_, by simp, .nil, Nat.zero_le _, by simpa using e, rfl, (Grow.own g1.sub hL).rl rw1⟩, ?_⟩
  · have : a = L := by simpa using m
    subst this; exact ⟨hL0, g1.sub.free hL⟩
  rintro i m H' ⟨hm, Hs', as, dn, rest, g', s1', hD, hF, hN, ro, hdn, el, ex, rl'⟩
  by_cases hi : i < ds.length
  · right
    refine ⟨itj.go i H' (s1'.trans g'.sub) hi, fun H2 => (m - 1) + (i + 1) = ds.length ∧ ∃ Hs' as dn rest, Grow Hs H Hs' H2 ∧ Same Hs1 Hs' ∧ H2 L = some (.lst (as.map V.ref)) ∧ (∀ a ∈ L :: as, H a = Option.none ∧ Hs' a = Option.none) ∧ (L :: as).Nodup ∧ OR X.K Hs' H2 as dn ∧ as.length ≤ i + 1 ∧ lcO A (ds.drop (i + 1)) (wipeE env vs) = some rest ∧ dn ++ rest = xss ∧ Rl X.K Hs' H2 (wipeE env vs) (wipe σ vs) (wipeF fp vs), fun H2 h => ⟨m - 1, by omega, h⟩, fun x H2 y => ?_⟩
    rw [List.drop_eq_getElem_cons hi] at el
    obtain ⟨env1, e2, el⟩ := bind2 (γ := Unit) el
    obtain ⟨rs, e3, el⟩ := bind2 (γ := Unit) el
    injection el with el; subst el
    obtain ⟨Hs2, g2, rx⟩ := itj.yld i H' x H2 Hs' s1' g'.sub y ds[i] (List.getElem?_eq_getElem hi)
    have alive : ∀ a ∈ L :: as, ∃ o, H' a = some o := fun a m => by
      rcases List.mem_cons.mp m with z | m
      · subst z; exact ⟨_, hD⟩
      · obtain ⟨_, vs, z, _⟩ := Paired.exL ro m; exact ⟨_, z⟩
    have dead2 : ∀ a ∈ L :: as, Hs2 a = Option.none := fun a m => let ⟨_, z⟩ := alive a m; g2.none (hF a m).2 z
    intro s0 H0 C cl fpp
    obtain ⟨gt, pgt, kt⟩ := hg s0 H0 C cl fpp
    refine wg_of pgt (kt _ _ _ Hs2 H2 ds[i] x env1 _ (g2.rl rl') rx e2 fun σ3 fp3 r3 a3 o3 => ?_)
    have wEq : wipe σ3 vs = wipe σ vs := wipe_eq (by rw [o3.1, wipe_length]) hsl' fun j hj => (o3.2 j hj).1
    refine ⟨wEq, fun s0 H0 C cl fpp => ts_nil env1 σ3 fp3 Hs2 H2 true _ r3 rfl fun Hs3 H3 g3 => ?_⟩
    have g03 : Grow Hs H Hs3 H3 := (g'.trans g2).trans g3
    have alive3 : ∀ a ∈ L :: as, ∀ o, H' a = some o → H3 a = some o := fun a m o h => g3.keep _ _ (g2.keep _ _ h)
    have dead3 : ∀ a ∈ L :: as, Hs3 a = Option.none := fun a m => let ⟨_, z⟩ := alive a m; g3.none (dead2 a m) (g2.keep _ _ z)
    refine iteT fun s0 H0 C cl fpp => we_of (pe_lst pa_nil) ⟨Nat.zero_le _, fun p hp => ?_⟩
    have np : ∀ a ∈ L :: as, a ≠ p := fun a m z => by
      obtain ⟨o, h⟩ := alive a m
      have := alive3 a m o h
      rw [z, hp] at this; cases this
    have nLp : L ≠ p := np L List.mem_cons_self
    have g4 := Grow.own (o := .lst []) g3.sub hp
    refine ⟨as.map V.ref, by rw [upd_ne nLp]; exact alive3 L List.mem_cons_self _ hD, by rw [ln_eq, List.length_map]; omega, by omega, Hs3, as ++ [p], dn ++ [[]], rs, ⟨g03.same, fun b o h => ?_, fun b o h => ?_, g03.fre⟩, (s1'.trans g2.same).trans g3.same, ?_, fun a m => ?_, ?_, ?_, by simp; omega, e3, by rw [← ex]; simp, ?_⟩
    · have nb : b ≠ L := fun z => by subst z; rw [hL0] at h; cases h
      rw [upd_ne nb]; exact (g03.trans g4).keep _ _ h
    · have nb : b ≠ L := fun z => by subst z; rw [dead3 b List.mem_cons_self] at h; cases h
      rw [upd_ne nb]; exact g4.sub _ _ h
    · rw [upd_same]; simp
    · rcases List.mem_cons.mp m with z | m
      · subst z; exact ⟨hL0, dead3 a List.mem_cons_self⟩
      · rcases List.mem_append.mp m with m | m
        · exact ⟨(hF a (List.mem_cons_of_mem _ m)).1, dead3 a (List.mem_cons_of_mem _ m)⟩
        · have : a = p := by simpa using m
          subst this; exact ⟨g03.keep.free hp, g3.sub.free hp⟩
    · have h1 := List.nodup_cons.mp hN
      rw [List.nodup_cons, List.nodup_append]
      refine ⟨fun m => ?_, h1.2, by simp, fun a ha b hb => ?_⟩
      · rcases List.mem_append.mp m with m | m
        · exact h1.1 m
        · exact nLp (by simpa using m)
      · have : b = p := by simpa using hb
        subst this; exact np a (List.mem_cons_of_mem _ ha)
    · have h1 := List.nodup_cons.mp hN
      have r1 : OR X.K Hs3 (upd (upd H3 p (.lst [])) L (.lst (as.map V.ref ++ [.ref p]))) as dn := or_up ro (g2.same.trans g3.same) fun a m o h => by
        rw [upd_ne (fun z => by subst z; exact h1.1 m), upd_ne (np a (List.mem_cons_of_mem _ m))]
        exact alive3 a (List.mem_cons_of_mem _ m) o h
      have ap : ∀ {xs : List Addr} {ys : List (List D)} {H0 : Hp}, OR X.K Hs3 H0 xs ys → H0 p = some (.lst []) → OR X.K Hs3 H0 (xs ++ [p]) (ys ++ [[]]) := fun {xs} => by
        induction xs with
        | nil => intro ys H0 r h; cases r; exact .cons ⟨[], h, .nil⟩ .nil
        | cons x xs ih => intro ys H0 r h; cases r with | cons h0 r => exact .cons h0 (ih r h)
      exact ap r1 (by rw [upd_ne nLp.symm, upd_same])
    · have nf : ∀ j, L ∉ wipeF fp vs j := fun j mm => rl1.free hL j (wipeF_sub mm)
      have rl4 := g4.rl (g3.rl (g2.rl rl'))
      refine ⟨rl4.len, fun j s h => ?_, rl4.out, rl4.nd, rl4.ap, rl4.fr, fun b o h => ?_⟩
      · obtain ⟨o, h1, h2⟩ := rl4.pl j s h
        refine ⟨o, h1, h2.keep (Same.refl _) fun b mb o h => ?_⟩
        rw [upd_ne (fun z => by subst z; exact nf j mb)]; exact h
      · have nb : b ≠ L := fun z => by subst z; rw [dead3 b List.mem_cons_self] at h; cases h
        rw [upd_ne nb]; exact rl4.sub _ _ h
  · left
    have e0 : i = ds.length := by omega
    subst e0
    refine ⟨itj.stop H' (s1'.trans g'.sub), ?_⟩
    rw [List.drop_length] at el
    injection el with el; subst el
    have ed : dn = xss := by simpa using ex
    subst ed
    exact q Hs' H' L as g' hF hN hD ro
def gOwnO (i : Nat) (f : Ev → Option (List (List D))) : GF := fun e => (f e).bind fun xss => if i < e.length then some (.nx (e.set i (.oo xss))) else none
theorem putOO {K : PySem.W.Frag} {Hs H Hs' H' : Hp} {e : Ev} {σ : L2.St} {fp : Fp} {i : Nat} {p : Addr} {as : List Addr} {xss : List (List D)} (rl : Rl K Hs H e σ fp) (g : Grow Hs H Hs' H') (hi : i < e.length) (hF : ∀ a ∈ p :: as, H a = Option.none ∧ Hs' a = Option.none) (hN : (p :: as).Nodup) (hD : H' p = some (.lst (as.map V.ref))) (ro : OR K Hs' H' as xss) :
    Rl K Hs' H' (e.set i (.oo xss)) (σ.set i (some (.ref p))) (pt fp i (p :: as)) ∧ Adv fp Hs H (pt fp i (p :: as)) Hs' H' := by
  refine ⟨(g.rl rl).put hi ⟨p, as, rfl, rfl, hD, ro⟩ hN (fun j a _ m => rl.free (hF a m).1 j) fun a m => (hF a m).2, ?_⟩
  have ga := g.adv (fp := fp)
  exact ⟨ga.same, ga.keep, ga.trk, fun j b m => by
    by_cases z : j = i
    · rw [z, pt_same] at m; exact .inr (hF b m).1
    · rw [pt_ne z] at m; exact .inl ⟨j, m⟩, ga.fre⟩
theorem sj_lcO {X : Cx} {kp : List Nat} {i : Nat} {y : Str} {py epos : Pos} {tg iter : Expr} {scope : Scope} {own : List (Str × Nat)} {pos spos : Pos} {sl : List Nat} {fi : FL} {A : AF} (hk : kp.contains i = false) (hc : X.calm = true) (hN : X.N.Nodup) (hy : X.N[i]? = some y) (hyl : X.env.scope.names.lookup y = some .local)
    (hsw : swapsWith (.ListComp (.List [] epos) [⟨tg, iter, [], 0⟩] scope pos) (some (.Name y py)) spos.line X.env = pure true) (hi : IJ X tg iter fi) (ok : BlkOk X.N X.env.scope scope own)
    (hsl : (sl.all fun j => (own.map (·.2)).contains j) = true)
    (hg : ∀ (s : Shared) (H : Hp) (C : Addr) (cl : List (Str × Addr)) (fp : List Addr), TJ (X.blk s H scope (compEnvC scope cl C X.env) fp) tg sl A) (hs : ∀ x, foldedSetIterable iter X.env x = pure x := by intro _; rfl) :
    SJ X kp (.Assign [.Name y py] (.ListComp (.List [] epos) [⟨tg, iter, [], 0⟩] scope pos) spos) (gOwnO i (fLcO (own.map (·.2)) fi A)) := by
  obtain ⟨wi, pi, ki⟩ := hi
  intro env σ fp Hs H r D' rl e q
  obtain ⟨xss, e1, e⟩ := bind2 (γ := Unit) e
  split at e <;> try contradiction
  rename_i hl
  injection e with e; subst e
  refine ws_of (ps_setLc (wi := wi) (g := gFam X scope tg) (tt := tFam X scope []) (te := eFam X scope (.List [] epos)) hc hN hy hyl hsw pi ok (fun s H C cl fp => ⟨fun pins s1 σ H v u Q I r h => h _ _ _ _ _ pins s1 u I r⟩) (fun s H C cl fp => ⟨fun pins s1 σ H Q I h => h _ _ _ _ _ pins s1 I⟩) (fun s H C cl fp => ⟨fun pins s1 σ H Q I h => h _ _ _ _ _ pins s1 I⟩) hs) ?_
  refine lco_main ki hsl hg rl e1 fun Hs1 H1 p as g hF hN hD ro => ?_
  obtain ⟨r1, a1⟩ := putOO rl g hl hF hN hD ro
  exact q _ _ Hs1 H1 r1 a1 (Kp.set hk)

def lcGE (vs : List Nat) (A : AF) (F : EF) : List D → Ev → Option (List D × Ev)
  | [], e => some ([], e)
  | d :: ds, e => (A d e).bind fun e1 => (F e1).bind fun y => (lcGE vs A F ds (wipeE y.2 vs)).bind fun r => some (y.1 :: r.1, r.2)
def restE (e0 e : Ev) : List Nat → Ev
  | [] => e
  | v :: vs => (restE e0 e vs).set v (e0.getD v .un)
def eLc (vs : List Nat) (fi : FL) (A : AF) (F : EF) : EL := fun e => (fi e).bind fun ds => if ds.length ≤ LN ∧ (vs.all fun v => decide (v < e.length)) = true then (lcGE vs A F ds (wipeE e vs)).map fun r => (r.1, restE e r.2 vs) else none
end TL
set_option Elab.async false
set_option linter.all false
set_option maxRecDepth 100000
namespace TL
open PySem PySem.Spec L2
open PyProof.Rows hiding St
section
variable {prog : Program} {w : World} {A : Around} {E : Value → Shared → Prop} {s : Shared}
end
section
variable {X : Cx} {i : Nat} {x : Str} {p p2 spos : Pos}
end
end TL
set_option Elab.async false
set_option linter.all false
set_option maxRecDepth 100000
namespace TL
open PySem PySem.Spec L2
open PyProof.Rows hiding St
def gAll (i : Nat) (f : FL) : GF := fun e => (f e).bind fun d => (ownE i e).bind fun xs => if xs.length + d.length ≤ LN then some (.nx (e.set i (.ow d))) else none
def gAllE (i : Nat) (f : EL) : GF := fun e => (f e).bind fun d => (ownE i d.2).bind fun xs => if xs.length + d.1.length ≤ LN then some (.nx (d.2.set i (.ow d.1))) else none
section
variable {X : Cx} {kp : List Nat} {a : Expr} {fl : FL} {FL' : EL} {pos p p2 spos : Pos} {x : Str}
end
section
variable {X : Cx} {kp : List Nat} {tgs : List Expr} {is : List Nat} {F : EP'} {pos p : Pos} {x : Str}
theorem VsR.up {K : PySem.W.Frag} {Hs H H' H0 : Hp} (h : Same H H') : ∀ {rs : List Vr} {vs : List V} {ps : List Addr}, VsR K Hs H H0 rs vs ps → VsR K Hs H' H0 rs vs ps
  | _, _, _, .nil => .nil
  | _, _, _, .t a r => .t a (r.up h)
  | _, _, _, .f h1 h2 h3 h4 h5 r => .f (h _ _ h1) h2 h3 h4 h5 (r.up h)
  | _, _, _, .s h1 h2 h3 r => .s (h1.keep (Same.refl _) fun a _ o q => h a o q) h2 (fun a m => let ⟨⟨o, z1⟩, z2⟩ := h3 a m; ⟨⟨o, h _ _ z1⟩, z2⟩) (r.up h)
end
end TL
set_option Elab.async false
set_option linter.all false
set_option maxRecDepth 100000
namespace TL
open PySem PySem.Spec L2
open PyProof.Rows hiding St
theorem hu1 {k : Nat} {A : Around} (r : Room k A) : A.units + 1 < cLine := by have := hu200 r; omega
theorem kws_nil {fd : FuncData} {ps : List Str} : ∀ q ∈ ([] : List (List Str × List Nat)), KwB fd ps q.1 q.2 := fun _ h => (List.not_mem_nil h).elim
section
variable {X : Cx} {kp : List Nat} {st : Stmt} {pre rest : List Stmt} {g h : GF}
end
def fSlO (i : Nat) (lo hi : Ev → Option (Option Int)) : FL := fun e => (lo e).bind fun l => (hi e).bind fun u => (ownE i e).map fun xs => cutX xs l u
def fFrzL (i : Nat) (f : FL) : FL := fun e => (frzE i e).bind fun e' => (f e').bind fun ds => if ds.all flatD = true then some ds else none
def eFrzL (i : Nat) (F : EL) : EL := fun e => (frzE i e).bind fun e1 => (F e1).bind fun r => if r.1.all flatD = true then (mgE i 0 e r.2).map fun e2 => (r.1, e2) else none
section
variable {X : Cx} {a : Expr} {fl : FL} {FL' : EL} {pos p p2 : Pos} {x : Str} {lo hi : Option Expr}
theorem fv_slO (i : Nat) {gl gh : Ev → Option (Option Int)} (h1 : PJ X lo gl) (h2 : PJ X hi gh) (hN : X.N[i]? = some x := by rfl) (hv : Vis X.env.scope x := by first | exact Or.inl rfl | exact Or.inr (Or.inl rfl) | exact Or.inr (Or.inr rfl)) (hd : (x == ("__debug__" : Str)) = false := by decide)
    (hcd : (x == ("__classdict__" : Str)) = false := by decide) : FV X (.Subscript (.Name x p) (.Slice lo hi none p2) pos) (fSlO i gl gh) := by
  obtain ⟨t1, p1, k1⟩ := h1
  obtain ⟨t2, p2', k2⟩ := h2
  intro env σ fp Hs H xs Q rl e q
  obtain ⟨l, e2, e⟩ := bind2 (γ := Unit) e
  obtain ⟨u, e3, e⟩ := bind2 (γ := Unit) e
  obtain ⟨ys, es, e⟩ := prod2 (β := Unit) e
  subst e
  obtain ⟨o, z1, b, vs, rfl, z2, z3, z4⟩ := rl.pl i _ (ownE_eq es)
  refine we_of (pe_slice sl_list (pe_var hN hv hd hcd) p1 p2') ⟨.ref b, z1, k1 env σ fp Hs H l _ rl e2 fun Hs2 H2 g2 => k2 env σ fp Hs2 H2 u _ (g2.rl rl) e3 fun Hs3 H3 g3 => ?_⟩
  have g := g2.trans g3
  exact ⟨b, vs, rfl, SqL.of (g.keep _ _ z3), fun p hp => (q.go g).new g.sub (cut_rp (z4.sm g.same) l u) hp⟩
end
section
variable {X : Cx} {CX : CXT} {lv n : Nat} {f : Addr} {fd : FuncData} {ps : List Str} {E : XK} {x : Str} {p pos : Pos} {a : Expr} {es : List Expr} {ml : List D → Option (List D)} {FL' : EL}
end
end TL
set_option Elab.async false
set_option linter.all false
set_option maxRecDepth 100000
namespace TL
open PySem PySem.Spec L2
open PyProof.Rows hiding St
theorem lookD_store (k : Key) (d : D) (j : Key) : ∀ kvs : List (Key × D), lookD (storeD kvs k d) j = if j = k then some d else lookD kvs j := by
  have h1 : ∀ kvs : List (Key × D), (kvs.any fun kv => decide (kv.1 = k)) = true → lookD (kvs.map fun kv => if kv.1 = k then (kv.1, d) else kv) j = if j = k then some d else lookD kvs j := by
    intro kvs
    induction kvs with
    | nil => intro h; cases h
    | cons p r ih =>
      intro h
      by_cases e : p.1 = k
      · by_cases ej : j = k
        · subst ej
          simp [lookD, List.find?_cons, e]
        · have e2 : ¬ k = j := fun z => ej z.symm
          have hn : ∀ q : List (Key × D), (q.map fun kv => if kv.1 = k then (kv.1, d) else kv).find? (fun kv => decide (kv.1 = j)) = q.find? fun kv => decide (kv.1 = j) := by
            intro q
            induction q with
            | nil => rfl
            | cons x xs ihq =>
              rw [List.map_cons, List.find?_cons, List.find?_cons, ihq]
              by_cases ex : x.1 = k
              · rw [if_pos ex]; simp [ex, e2]
              · rw [if_neg ex]
          rw [if_neg ej]
          unfold lookD
          rw [hn]
      · have h' : (r.any fun kv => decide (kv.1 = k)) = true := by simpa [e] using h
        have := ih h'
        unfold lookD at this ⊢
        rw [List.map_cons, if_neg e, List.find?_cons, List.find?_cons]
        by_cases ep : p.1 = j
        · have : ¬ j = k := fun z => e (ep.trans z)
          simp [ep, this]
        · simp only [ep, decide_false]; exact this
  intro kvs
  unfold storeD
  split
  · rename_i h; exact h1 kvs h
  · rename_i h
    unfold lookD
    rw [List.find?_append]
    by_cases ej : j = k
    · subst ej
      have : kvs.find? (fun kv => decide (kv.1 = j)) = none := by
        rw [List.find?_eq_none]
        intro x m c
        exact h (List.any_eq_true.2 ⟨x, m, c⟩)
      rw [this]; simp
    · have : ¬ k = j := fun z => ej z.symm
      rw [if_neg ej]
      cases kvs.find? (fun kv => decide (kv.1 = j)) <;> simp [this]
theorem storeD_len (k : Key) (d : D) (kvs : List (Key × D)) : (storeD kvs k d).length ≤ kvs.length + 1 := by
  unfold storeD
  split
  · simp
  · simp
theorem enumD_get {xs : List D} {k : Nat} {d : D} (h : (enumD xs)[k]? = some d) : ∃ x, xs[k]? = some x ∧ d = .tuple [.int (k : Int), x] := by
  unfold enumD at h
  rw [List.getElem?_map, List.getElem?_zipIdx] at h
  cases e : xs[k]? with
  | none => rw [e] at h; cases h
  | some x =>
    rw [e] at h
    simp at h
    exact ⟨x, rfl, h.symm⟩
theorem enumD_len {xs : List D} : (enumD xs).length = xs.length := by simp [enumD]
structure Shw (w k : Nat) (d : D) : Prop where
  lv : PyData.leavesShort 100 d = true
  wt : d.weight ≤ w
  dp : d.depth ≤ k
  sh : d.showable = true
  ed : emptyD d = true
theorem Fine.shw {w k : Nat} {d : D} (h : Fine w k d) : Shw w k d := ⟨h.lv, h.wt, h.dp, h.sh, empty_of d h.cl⟩
theorem Shw.mono {w k w' k' : Nat} {d : D} (h : Shw w k d) (hw : w ≤ w') (hk : k ≤ k') : Shw w' k' d := ⟨h.lv, Nat.le_trans h.wt hw, Nat.le_trans h.dp hk, h.sh, h.ed⟩
end TL
set_option Elab.async false
set_option linter.all false
set_option maxRecDepth 100000
namespace TL
open PySem PySem.Spec L2
open PyProof.Rows hiding St
def asL : D → Option (List D)
  | .list xs => some xs
  | _ => none
def gExt (i : Nat) (f : FD) : GF := fun e => ((f e).bind asL).bind fun ds => (ownE i e).bind fun xs => if xs.length + ds.length ≤ LN then some (.nx (e.set i (.ow (xs ++ ds)))) else none
section
variable {X : Cx} {kp : List Nat} {a b : Expr} {f g : FD} {pos p apos cpos : Pos} {x : Str}
end
section
variable {X : Cx} {a : Expr} {es : List Expr} {pos p : Pos} {x : Str} {id : String} {kl : List D → Option (List D)} {fl : FL}
end
end TL
set_option Elab.async false
set_option linter.all false
set_option maxRecDepth 100000
namespace TL
open PySem PySem.Spec L2
open PyProof.Rows hiding St
def allF : List Vr → Option (List (List D))
  | [] => some []
  | .f xs :: r => (allF r).map (xs :: ·)
  | .t _ :: _ => none
  | .s _ :: _ => none
def gOoL (i : Nat) (F : EP') : GF := fun e => (F e).bind fun x => (allF x.1).bind fun xss => if xss.length ≤ LN ∧ i < x.2.length then some (.nx (x.2.set i (.oo xss))) else none
section
variable {X : Cx} {kp : List Nat} {es : List Expr} {F : EP'} {pos p lpos : Pos} {x : Str}
end
def fFrzO (i : Nat) (f : FD) : FD := fun e => (frzOE i e).bind fun e' => (f e').bind fun d => if flatD d = true then some d else none
def bFrzO (i : Nat) (f : FB) : FB := fun e => (frzOE i e).bind f
section
variable {X : Cx} {a : Expr} {f : FD} {fb : FB}
end
def gForApp (i j : Nat) : GF := fun e => (ooE i e).bind fun xss => if (xss.all fun xs => decide (xs.length < LN)) = true ∧ j < e.length ∧ i ≠ j then some (.nx ((e.set i .un).set j .un)) else none
section
variable {X : Cx} {kp : List Nat} {x y : Str} {px py p1 apos cpos cp pos pos' : Pos} {k0 : Nat}
end
end TL
set_option Elab.async false
set_option linter.all false
set_option maxRecDepth 100000
namespace TL
open PySem PySem.Spec L2
open PyProof.Rows hiding St
def stpX {α : Type} (xs : List α) (k : Int) : List α := (sliceRange 0 (xs.length : Int) k).filterMap (xs[·]?)
section
variable {X : Cx} {a b e g : Expr} {pos p3 : Pos} {te : TE} {tg : TO} {f k : FD}
def fStp (f k : FD) : FL := fun e => (f e).bind fun d => (k e).bind fun i => match d, i with
  | .list xs, .int j => if 0 < j then some (stpX xs j) else none
  | _, _ => none
end
end TL
set_option Elab.async false
set_option linter.all false
set_option maxRecDepth 100000
namespace TL
open PySem PySem.Spec L2
open PyProof.Rows hiding St
def gPop (i : Nat) : GF := fun e => (ownE i e).bind fun xs => if xs = [] then none else some (.nx (e.set i (.ow xs.dropLast)))
theorem RpL.dropLast {K : PySem.W.Frag} {H : Hp} : ∀ {vs : List V} {ds : List D}, RpL K H vs ds → RpL K H vs.dropLast ds.dropLast
  | _, _, .nil => .nil
  | _, _, .cons (v := v) (vs := vs) (d := d) (ds := ds) h r => by
    cases r with
    | nil => exact .nil
    | cons h2 r2 => exact .cons h (RpL.dropLast (.cons h2 r2))
section
variable {X : Cx} {kp : List Nat} {a b : Expr} {f g : FD} {pos p apos cpos : Pos} {x : Str}
def divmodD : List D → Option D
  | [.int i, .int j] => if 0 < j ∧ Builtin.Int.intBits i ≤ Builtin.Int.intBits j + 4000 then some (.tuple [.int (i / j), .int (i % j)]) else none
  | _ => none
end
section
variable {X : Cx} {kp : List Nat} {F : Ev → Option (List Vr × Ev)} {pos : Pos}
end
section
variable {X : Cx}
end
end TL
set_option Elab.async false
set_option linter.all false
set_option maxRecDepth 100000
namespace TL
open PySem PySem.Spec L2
open PyProof.Rows hiding St
def eSlTo (F G : EF) : EL := fun e => (F e).bind fun x => (G x.2).bind fun y => match x.1, y.1 with
  | .list xs, .int j => some (cutX xs none (some j), y.2)
  | _, _ => none
section
variable {X : Cx} {a b : Expr} {F G : EF} {pos p2 : Pos}
end
def fLrg (f : FD) : FL := fun e => (f e).bind fun d => match d with
  | .int j => if 0 ≤ j ∧ j ≤ 16777216 then some (rngD 0 j.toNat) else none
  | _ => none
theorem rpl_ints {K : PySem.W.Frag} {H : Hp} (f : Nat → Int) : ∀ l : List Nat, RpL K H (l.map fun i => V.int (f i)) (l.map fun i => PyData.int (f i))
  | [] => .nil
  | i :: l => .cons (.i _) (rpl_ints f l)
section
variable {X : Cx} {a : Expr} {f : FD} {pos p p1 p2 : Pos}
end
end TL
set_option Elab.async false
set_option linter.all false
set_option maxRecDepth 100000
namespace TL
open PySem PySem.Spec L2
open PyProof.Rows hiding St
end TL
set_option Elab.async false
set_option linter.all false
set_option maxRecDepth 100000
namespace TL
open PySem PySem.Spec L2
open PyProof.Rows hiding St
end TL
set_option Elab.async false
set_option linter.all false
set_option maxRecDepth 100000
namespace TL
open PySem PySem.Spec L2
open PyProof.Rows hiding St
theorem keyD_kD (k : Key) : keyD (kD k) = some k := by cases k <;> rfl
def keyedD : List (D × D) → Option (List (Key × D))
  | [] => some []
  | (k, d) :: r => (keyD k).bind fun k => (keyedD r).map fun r => (k, d) :: r
def encK (ks : List (Key × D)) : List (D × D) := ks.map fun p => (kD p.1, p.2)
theorem keyed_enc : ∀ ks : List (Key × D), keyedD (encK ks) = some ks
  | [] => rfl
  | (k, d) :: r => by
    show ((keyD (kD k)).bind fun k => (keyedD (encK r)).map fun r => (k, d) :: r) = _
    rw [keyD_kD, keyed_enc r]; rfl
section
variable {K : PySem.W.Frag} {H : Hp}
theorem rpk_dr : ∀ {vs : List (Key × V)} {kvs : List (D × D)}, RpK K H vs kvs → ∃ ks, kvs = encK ks ∧ DR K H vs ks
  | [], _, h => by cases h; exact ⟨[], rfl, .nil⟩
  | _ :: _, _, h => by
    cases h with
    | @cons k v vs d ds h r =>
      obtain ⟨ks, e, q⟩ := rpk_dr r
      exact ⟨(k, d) :: ks, by rw [e]; rfl, .cons ⟨rfl, h⟩ q⟩
def dictD : D → Option (List (Key × D))
  | .dict kvs => keyedD kvs
  | _ => none
theorem Rp.dict {v : V} {d : D} {ks : List (Key × D)} (r : Rp K H v d) (e : dictD d = some ks) : d = .dict (encK ks) ∧ ∃ a vs, v = .ref a ∧ Rd H a (.dK vs) ∧ DR K H vs ks := by
  cases r with
  | @d a vs kvs h r =>
    obtain ⟨ks', rfl, q⟩ := rpk_dr r
    have e : keyedD (encK ks') = some ks := e
    rw [keyed_enc] at e
    injection e with e; subst e
    exact ⟨rfl, a, vs, rfl, h, q⟩
  | _ => cases e
end
def f3 (g : D → D → D → Option D) (a b c : FD) : FD := fun e => (a e).bind fun x => (b e).bind fun y => (c e).bind fun z => g x y z
section
variable {X : Cx} {a b c : Expr} {f g h : FD} {pos apos cpos : Pos}
end
end TL
set_option Elab.async false
set_option linter.all false
set_option maxRecDepth 100000
namespace TL
open PySem PySem.Spec L2
open PyProof.Rows hiding St
def Sim (H H' : Hp) : Prop := ∀ b u, (∀ o u', u ≠ .frz o u') → Rd H b u → Rd H' b u
theorem Same.sim {H H' : Hp} (e : Same H H') : Sim H H' := fun b u _ h => same_rdO e h
section
variable {K : PySem.W.Frag} {H H' : Hp}
theorem Sim.seqL {a : Addr} {vs : List V} (e : Sim H H') (h : SqL K H a vs) : SqL K H' a vs := h.elim (fun h => .inl (e _ _ (fun _ _ z => nomatch z) h)) .inr
theorem Sim.seqT {a : Addr} {vs : List V} (e : Sim H H') (h : SqT K H a vs) : SqT K H' a vs := h.elim (fun h => .inl (e _ _ (fun _ _ z => nomatch z) h)) .inr
mutual
theorem Rp.sim (e : Sim H H') : ∀ (d : D) (v : V), Rp K H v d → Rp K H' v d
  | .none, _, h => by cases h; exact .n
  | .bool _, _, h => by cases h; exact .b _
  | .int _, _, h => by cases h; exact .i _
  | .str _, _, h => by cases h; exact .s _
  | .list ds, _, h => by cases h with | l h r => exact .l (e.seqL h) (RpL.sim e ds _ r)
  | .tuple ds, _, h => by cases h with | t h r => exact .t (e.seqT h) (RpL.sim e ds _ r)
  | .dict kvs, _, h => by cases h with | d h r => exact .d (e _ _ (fun _ _ z => nomatch z) h) (RpK.sim e kvs _ r)
theorem RpL.sim (e : Sim H H') : ∀ (ds : List D) (vs : List V), RpL K H vs ds → RpL K H' vs ds
  | [], _, h => by cases h; exact .nil
  | d :: ds, _, h => by cases h with | cons h r => exact .cons (Rp.sim e d _ h) (RpL.sim e ds _ r)
theorem RpK.sim (e : Sim H H') : ∀ (ds : List (D × D)) (vs : List (Key × V)), RpK K H vs ds → RpK K H' vs ds
  | [], _, h => by cases h; exact .nil
  | (_, d) :: ds, _, h => by cases h with | cons h r => exact .cons (Rp.sim e d _ h) (RpK.sim e ds _ r)
end
theorem DR.sim (e : Sim H H') {vs : List (Key × V)} {ks : List (Key × D)} (h : DR K H vs ks) : DR K H' vs ks := paired_imp h fun p q _ z => ⟨z.1, Rp.sim e _ _ z.2⟩
end
section
variable {K : PySem.W.Frag} {Hs H Hs' H' : Hp} {e : Ev} {σ : L2.St} {fp : Fp}
end
def pairsD (ks : List (Key × D)) : List D := ks.map fun p => .tuple [kD p.1, p.2]
end TL
set_option Elab.async false
set_option linter.all false
set_option maxRecDepth 100000
namespace TL
open PySem PySem.Spec L2
open PyProof.Rows hiding St
section
variable {X : Cx} {x : Str} {p apos cpos tpos pos : Pos} {elts : List Expr} {kk : Nat}
end
end TL
set_option Elab.async false
set_option linter.all false
set_option maxRecDepth 100000
namespace TL
open PySem PySem.Spec L2
open PyProof.Rows hiding St
section
variable {X : Cx} {x : Str} {p apos cpos tpos pos : Pos} {elts : List Expr} {kk : Nat}
end
end TL
set_option Elab.async false
set_option linter.all false
set_option maxRecDepth 100000
namespace TL
open PySem PySem.Spec L2
open PyProof.Rows hiding St
section
variable {X : Cx} {e : Expr} {te : TE} {p apos cpos pos : Pos}
def fKeys (f : FD) : FL := fun e => ((f e).bind dictD).map fun ks => ks.map fun p => kD p.1
def fVals (f : FD) : FL := fun e => ((f e).bind dictD).map fun ks => ks.map fun p => p.2
def fPairs (f : FD) : FL := fun e => ((f e).bind dictD).map pairsD
variable {f : FD} {a : Expr}
end
def frzDE (i : Nat) (e : Ev) : Option Ev := (odE i e).map fun ks => e.set i (.sh (.dict (encK ks)))
def gFrzD (i : Nat) (g : GF) : GF := fun e => (frzDE i e).bind g
section
variable {X : Cx} {kp : List Nat} {st : Stmt} {g : GF}
end
end TL
set_option Elab.async false
set_option linter.all false
set_option maxRecDepth 100000
namespace TL
open PySem PySem.Spec L2
open PyProof.Rows hiding St
def lmax : List Int → Int
  | [] => 0
  | [x] => x
  | x :: y :: r => max x (lmax (y :: r))
def lmin : List Int → Int
  | [] => 0
  | [x] => x
  | x :: y :: r => min x (lmin (y :: r))
section
variable {X : Cx} {a : Expr} {f : FD} {p pos p2 p3 tpos : Pos} {y z : Str} {T S : String} {kk : Nat}
end
end TL
set_option Elab.async false
set_option linter.all false
set_option maxRecDepth 100000
namespace TL
open PySem PySem.Spec L2
open PyProof.Rows hiding St
def gRevO (i : Nat) : GF := fun e => (ownE i e).map fun xs => .nx (e.set i (.ow xs.reverse))
def gClear (i : Nat) : GF := fun e => (ownE i e).map fun _ => .nx (e.set i (.ow []))
def gPopAt (i : Nat) (F : EF) : GF := fun e => (ownE i e).bind fun _ => (F e).bind fun r => (asN r.1).bind fun n => (ownE i r.2).bind fun xs => (ixN xs.length n).bind fun k => if n.natAbs < 4611686018427387904 then some (.nx (r.2.set i (.ow (xs.eraseIdx k)))) else none
def gIns (i : Nat) (F G : EF) : GF := fun e => (ownE i e).bind fun _ => (F e).bind fun r => (asN r.1).bind fun n => (G r.2).bind fun q => (ownE i q.2).bind fun xs => if xs.length < LN ∧ 0 ≤ n ∧ n < 4611686018427387904 then some (.nx (q.2.set i (.ow (xs.take n.toNat ++ [q.1] ++ xs.drop n.toNat)))) else none
def ePop (i : Nat) : EF := fun e => (ownE i e).bind fun xs => (xs.getLast?).map fun d => (d, e.set i (.ow xs.dropLast))
section
variable {X : Cx} {kp : List Nat} {a b : Expr} {F G : EF} {pos p apos cpos pos' : Pos} {x : Str}
end
end TL
set_option Elab.async false
set_option linter.all false
set_option maxRecDepth 100000
namespace TL
open PySem PySem.Spec L2
open PyProof.Rows hiding St
def gAug (i : Nat) (op : Int → Int → Int) (F : EF) : GF := fun e => ((fVar i e).bind asN).bind fun a => (F e).bind fun r => (asN r.1).bind fun b => if i < r.2.length then some (.nx (r.2.set i (.sh (.int (op a b))))) else none
theorem fVar_eq {i : Nat} {e : Ev} {d : D} (h : fVar i e = some d) : e[i]? = some (.sh d) := by
  unfold fVar at h
  cases es : e[i]? with
  | none => rw [es] at h; cases h
  | some s =>
    rw [es] at h
    cases s <;> simp only at h <;> try contradiction
    injection h with h; rw [h]
theorem sj_aug {X : Cx} {kp : List Nat} {a : Expr} {F : EF} {op : Operator} {k : Int → Int → Int} {pos p : Pos} (i : Nat) {x : Str} (hk : kp.contains i = false) (nd : X.N.Nodup) (hi : X.N[i]? = some x) (hx : Loc X.env.scope x) (ho : PIp X op (ipI k)) (ha : EV X a F) (hf : X.fn x = true ∨ X.env.scope.names.lookup x = some .local := by first | exact .inl rfl | exact .inr rfl | assumption) :
    SJ X kp (.AugAssign (.Name x p) op a pos) (gAug i k F) := by
  intro env σ fp Hs H r D' rl e q
  obtain ⟨n, e1, e⟩ := bind2 (γ := Unit) e
  obtain ⟨dn, e1, e1'⟩ := bind2 (γ := Unit) e1
  obtain ⟨⟨db, en1⟩, e2, e⟩ := bind2 (γ := Unit) e
  obtain ⟨b, e3, e⟩ := bind2 (γ := Unit) e
  split at e <;> try contradiction
  rename_i hl
  injection e with e; subst e
  have z1 : dn = .int n := asN_eq e1'
  have z2 : db = .int b := asN_eq e3
  subst z1 z2
  obtain ⟨o, k1, _, v, rfl, k3⟩ := rl.pl i _ (fVar_eq e1)
  cases k3
  refine ws_of (ps_aug nd hi hx pe_we ho hf) ⟨.int n, k1, ha env σ fp Hs H _ en1 _ rl e2 fun Hs1 H1 u r1 a1 k2 => ?_⟩
  cases k2
  exact ⟨n, b, rfl, rfl, q _ _ Hs1 H1 (r1.putSh hl (.i _)) (a1.trans Adv.pt0) (Kp.set hk)⟩
def IJE (X : Cx) (tg iter : Expr) (F : EL) : Prop := ∃ wi, PI X tg iter wi ∧ ∀ (env : Ev) (σ : L2.St) (fp : Fp) (Hs H : Hp) (ds : List D) (env' : Ev) (R : It → Hp → Prop), Rl X.K Hs H env σ fp → F env = some (ds, env') →
  (∀ Hs' H' J, Rl X.K Hs' H' env' σ fp → Adv fp Hs H fp Hs' H' → ItJ X.K Hs' J ds → R J H') → wi σ H R
def jSeq (F : EF) : EL := fun e => (F e).bind fun x => match x.1 with | .list xs => some (xs, x.2) | _ => none
def jRg1 (F : EL) : EL := fun e => (F e).bind fun x => match x.1 with | [.int j] => if j.natAbs < 4611686018427387904 then some (rngD 0 j.toNat, x.2) else none | _ => none
def jRg2 (F : EL) : EL := fun e => (F e).bind fun x => match x.1 with | [.int i, .int j] => if i.natAbs < 4611686018427387904 ∧ j.natAbs < 4611686018427387904 then some (rngD i (j - i).toNat, x.2) else none | _ => none
def jEn (F : EL) : EL := fun e => (F e).bind fun x => match x.1 with | [.list xs] => some (enumD xs, x.2) | _ => none
def rngC (lo c : Int) (n : Nat) : List D := (List.range n).map fun k => .int (lo + (k : Nat) * c)
def iRg3 (f : FL) : FL := fun e => (f e).bind fun ds => match ds with | [.int i, .int j, .int c] => if c = -1 ∧ i.natAbs < 4611686018427387904 ∧ j.natAbs < 4611686018427387904 then some (rngC i (-1) (i - j).toNat) else none | _ => none
def iRvR (f : FD) : FL := fun e => (f e).bind fun d => match d with | .int n => if n.natAbs < 4611686018427387904 then some (rngC (n - 1) (-1) n.toNat) else none | _ => none
section
variable {X : Cx} {tg a b c : Expr} {f : FD} {fl : FL} {F : EF} {FL' : EL} {pos p p2 pos2 : Pos}
theorem IJ.e {iter : Expr} (h : IJ X tg iter fl) : IJE X tg iter (pur fl) := by
  obtain ⟨wi, pi, ki⟩ := h
  refine ⟨wi, pi, fun env σ fp Hs H ds env' R rl e q => ?_⟩
  obtain ⟨ds', e1, e⟩ := prod2 (β := Unit) e
  injection e with ea eb; subst ea eb
  exact ki env σ fp Hs H _ R rl e1 fun Hs' H' J g it => q Hs' H' J (g.rl rl) g.adv it
variable {elts : List Expr} {kk : Nat} {tpos : Pos}
end
def gForE (F : EL) (A : AF) (g : GF) : GF := fun e => (F e).bind fun x => forG A g x.1 x.2
end TL
set_option Elab.async false
set_option linter.all false
set_option maxRecDepth 100000
namespace TL
open PySem PySem.Spec L2
open PyProof.Rows hiding St
variable {X : Cx} {a : Expr} {f : FD} {p p2 pos pos2 : Pos}
def vS (F : Ev → Option SV) (r : EP') : EP' := fun e => (F e).bind fun x => (r e).bind fun y => some (.s x :: y.1, y.2)
def fDin (i : Nat) (k : FD) : FD := fun e => ((k e).bind keyD).bind fun n => (odE i e).map fun ks => .bool (lookD ks n).isSome
def fDinN (i : Nat) (k : FD) : FD := fun e => ((k e).bind keyD).bind fun n => (odE i e).map fun ks => .bool (!(lookD ks n).isSome)
end TL
set_option Elab.async false
set_option linter.all false
set_option maxRecDepth 100000
namespace TL
open PySem PySem.Spec L2
open PyProof.Rows hiding St
section
variable {P : Program} {w : World} {A : Around} {E : Value → Shared → Prop} {s : Shared}
end
variable {X : Cx} {a : Expr} {f : FD} {p p2 pos pos2 : Pos}
end TL
set_option Elab.async false
set_option linter.all false
set_option maxRecDepth 100000
namespace TL
open PySem PySem.Spec L2
open PyProof.Rows hiding St
variable {X : Cx} {a b : Expr} {f g : FD} {p p2 pos pos2 : Pos}
end TL
set_option Elab.async false
set_option linter.all false
set_option maxRecDepth 100000
namespace TL
open PySem PySem.Spec L2
open PyProof.Rows hiding St
end TL
set_option Elab.async false
set_option linter.all false
set_option maxRecDepth 100000
namespace TL
open PySem PySem.Spec L2
open PyProof.Rows hiding St
def strsD : List D → Option (List Str)
  | [] => some []
  | .str s :: r => (strsD r).map (s :: ·)
  | _ :: _ => none
theorem strsD_map : ∀ ys : List Str, strsD (ys.map .str) = some ys
  | [] => rfl
  | y :: ys => by rw [List.map_cons]; show (strsD (ys.map .str)).map (y :: ·) = _; rw [strsD_map ys]; rfl
theorem rp_strs {K : PySem.W.Frag} {H : Hp} : ∀ ys : List Str, RpL K H (ys.map V.str) (ys.map PyData.str)
  | [] => .nil
  | n :: ns => .cons (.s n) (rp_strs ns)
theorem strs_rp {K : PySem.W.Frag} {H : Hp} : ∀ {vs : List V} {ds : List D} {ys : List Str}, RpL K H vs ds → strsD ds = some ys → vs = ys.map V.str
  | _, _, ys, .nil, e => by injection e with e; subst e; rfl
  | _, _, ys, .cons h r, e => by
    cases h with
    | s z =>
      obtain ⟨zs, e1, e2⟩ := prod2 (β := Unit) e
      subst e2
      rw [List.map_cons, ← strs_rp r e1]
    | _ => cases e
def joinD : D → D → Option D
  | .str a, .list ds => (strsD ds).bind fun ys => if (ys.map (·.length)).sum + ys.length * a.length ≤ 16777216 then some (.str (Txt.join a ys)) else none
  | _, _ => none
def fWords (f : FD) : FL := fun e => (f e).bind fun d => match d with
  | .str a => if a.length + 2 ≤ LN then some ((Txt.words a).map .str) else none
  | _ => none
section
variable {X : Cx} {o e : Expr} {f g : FD} {apos pos : Pos}
theorem pv_join (ha : PV X o f) (hb : PV X e g) (hs : starEach [e] X.env = [(false, eval e X.env)] := by rfl) (hbase : attributeBase o "join" X.env (eval o X.env) = eval o X.env := by rfl) (hline : (apos.endLine == pos.line) = true := by rfl) :
    PV X (.Call (.Attribute o "join" apos) [e] [] pos) (f2 joinD f g) := by
  intro env σ fp Hs H d Q rl e q
  obtain ⟨d1, e1, e⟩ := bind2 (γ := Unit) e
  obtain ⟨d2, e2, e⟩ := bind2 (γ := Unit) e
  refine we_of (pe_join pe_we pe_we hs hbase hline) (ha env σ fp Hs H d1 _ rl e1 fun Hs1 H1 u g1 r1 => ?_)
  unfold joinD at e
  split at e <;> try contradiction
  rename_i a ds
  obtain ⟨ys, e3, e⟩ := bind2 (γ := Unit) e
  split at e <;> try contradiction
  rename_i hz
  injection e with e; subst e
  cases r1
  refine ⟨⟨_, rfl⟩, hb env σ fp Hs1 H1 _ _ (g1.rl rl) e2 fun Hs2 H2 v g2 r2 => ?_⟩
  cases r2 with
  | @l p vs ds h r =>
    have hv := strs_rp r e3
    subst hv
    exact ⟨_, _, ys, rfl, rfl, .inl (same_rd g2.sub h), hz, (q.go (g1.trans g2)).at g2.sub (.s _)⟩
theorem fv_words (ha : PV X o f) (hbase : attributeBase o "split" X.env (eval o X.env) = eval o X.env := by rfl) (hline : (apos.endLine == pos.line) = true := by rfl) :
    FV X (.Call (.Attribute o "split" apos) [] [] pos) (fWords f) := by
  intro env σ fp Hs H xs Q rl e q
  obtain ⟨d, e1, e⟩ := bind2 (γ := Unit) e
  cases d <;> simp only at e <;> try contradiction
  split at e <;> try contradiction
  rename_i a hz
  injection e with e; subst e
  refine we_of (pe_words pe_we hbase hline) (ha env σ fp Hs H _ _ rl e1 fun Hs1 H1 u g1 r1 => ?_)
  cases r1
  exact ⟨⟨_, rfl⟩, _, rfl, rfl, by rw [ln_eq]; exact hz, fun p hp => (q.go g1).new g1.sub (rp_strs _) hp⟩
def fmtD : D → Option Str
  | .str y => if y.length ≤ LN then some y else none
  | .int i => if i.natAbs.log2 < 1920 then some (toString i) else none
  | _ => none
def FS := Str → Ev → Option Str
def jNil : FS := fun acc _ => some acc
def jVal (f : FD) (r : FS) : FS := fun acc e => (f e).bind fun d => match d with
  | .str y => if (acc ++ y).length ≤ LN then r (acc ++ y) e else none
  | _ => none
def jFmt (f : FD) (r : FS) : FS := fun acc e => ((f e).bind fmtD).bind fun y => if (acc ++ y).length ≤ LN then r (acc ++ y) e else none
def fJoined (J : FS) : FD := fun e => (J Str.empty e).map .str
def FsJ (X : Cx) (es : List Expr) (J : FS) : Prop := ∃ ts : List TE, L2.PJ X es ts ∧ ∀ (env : Ev) (σ : L2.St) (fp : Fp) (Hs H : Hp) (acc out : Str) (Q : Str → Hp → Prop), Rl X.K Hs H env σ fp → J acc env = some out → (∀ Hs' H', Grow Hs H Hs' H' → Q out H') → tJs ts acc σ H Q
theorem fs_nil : FsJ X [] jNil := ⟨[], .nil, fun env σ fp Hs H acc out Q rl e q => by
  injection e with e; subst e
  exact q Hs H (Grow.refl rl.sub)⟩
theorem fs_val {es : List Expr} {r : FS} (ha : PV X e f) (hr : FsJ X es r) : FsJ X (e :: es) (jVal f r) := by
  obtain ⟨ts, h1, h2⟩ := hr
  refine ⟨WE X e :: ts, .cons pe_we h1, fun env σ fp Hs H acc out Q rl e q => ?_⟩
  obtain ⟨d, e1, e⟩ := bind2 (γ := Unit) e
  cases d <;> simp only at e <;> try contradiction
  split at e <;> try contradiction
  rename_i y hz
  refine ha env σ fp Hs H _ _ rl e1 fun Hs1 H1 u g1 r1 => ?_
  cases r1
  exact ⟨y, rfl, by rw [ln_eq]; exact hz, h2 env σ fp Hs1 H1 _ out Q (g1.rl rl) e fun Hs2 H2 g2 => q Hs2 H2 (g1.trans g2)⟩
theorem fs_fmt {es : List Expr} {r : FS} {p : Pos} (ha : PV X e f) (hr : FsJ X es r) : FsJ X (.FormattedValue e (-1) none p :: es) (jFmt f r) := by
  obtain ⟨ts, h1, h2⟩ := hr
  refine ⟨tFmt (WE X e) :: ts, .cons (pe_fmt pe_we) h1, fun env σ fp Hs H acc out Q rl e q => ?_⟩
  obtain ⟨y, e0, e⟩ := bind2 (γ := Unit) e
  obtain ⟨d, e1, e0⟩ := bind2 (γ := Unit) e0
  split at e <;> try contradiction
  rename_i hz
  refine ha env σ fp Hs H _ _ rl e1 fun Hs1 H1 u g1 r1 => ?_
  have k := h2 env σ fp Hs1 H1 _ out Q (g1.rl rl) e fun Hs2 H2 g2 => q Hs2 H2 (g1.trans g2)
  have hz' : (acc ++ y).length ≤ sizeLine := by rw [ln_eq]; exact hz
  cases d <;> simp only [fmtD] at e0 <;> try contradiction
  · split at e0 <;> try contradiction
    rename_i hl
    injection e0 with e0; subst e0
    cases r1
    exact .inr ⟨_, rfl, hl, _, rfl, hz', k⟩
  · split at e0 <;> try contradiction
    rename_i hl
    injection e0 with e0; subst e0
    cases r1
    exact .inl ⟨_, rfl, by rw [ln_eq]; exact hl, _, rfl, hz', k⟩
theorem pv_joined {v1 v2 : Expr} {rest : List Expr} {J : FS} (h : FsJ X (v1 :: v2 :: rest) J) : PV X (.JoinedStr (v1 :: v2 :: rest) pos) (fJoined J) := by
  obtain ⟨ts, h1, h2⟩ := h
  intro env σ fp Hs H d Q rl e q
  obtain ⟨out, e1, e⟩ := prod2 (β := Unit) e
  subst e
  exact we_of (pe_joined h1) (h2 env σ fp Hs H _ out _ rl e1 fun Hs1 H1 g1 => (q.go g1).at g1.sub (.s _))
end
end TL
set_option Elab.async false
set_option linter.all false
set_option maxRecDepth 100000
namespace TL
open PySem PySem.Spec L2
open PyProof.Rows hiding St
open PySem.Builtin.Str (tooLong)
def WET (X : Cx) (e : Expr) (σ : L2.St) (H : Hp) (Q : VK) : Prop := ∀ (pins : List (Addr × Obj)) (s : Shared), 1 ≤ s.toks → Inv X pins σ H s → wpAny (model X.prog X.w) X.A (eval e X.env) (EP X pins σ Q) X.xe s
def WST (X : Cx) (st : Stmt) (D : Ends) (σ : L2.St) (H : Hp) : Prop := ∀ (pins : List (Addr × Obj)) (s : Shared), 1 ≤ s.toks → Inv X pins σ H s → wpAny (model X.prog X.w) X.A (exec st X.env) (SP X pins D) X.xe s
def WBT (X : Cx) (st : List Stmt) (D : Ends) (σ : L2.St) (H : Hp) : Prop := ∀ (pins : List (Addr × Obj)) (s : Shared), 1 ≤ s.toks → Inv X pins σ H s → wpAny (model X.prog X.w) X.A (execs st X.env) (SP X pins D) X.xe s
section
variable {X : Cx} {e : Expr} {st : Stmt} {bd : List Stmt}
theorem pet_wet : PET X e (WET X e) := fun pins s σ H Q h0 I h => h pins s h0 I
theorem pst_wst : PST X st (fun D σ H => WST X st D σ H) := fun pins s σ H D h0 I h => h pins s h0 I
theorem psst_wbt : PSsT X bd (fun D σ H => WBT X bd D σ H) := fun pins s σ H D h0 I h => h pins s h0 I
theorem wet_of {t : TE} {σ : L2.St} {H : Hp} {Q : VK} (h : PET X e t) (q : t σ H Q) : WET X e σ H Q := fun pins s h0 I => h pins s σ H Q h0 I q
theorem wst_of {t : TS} {σ : L2.St} {H : Hp} {D : Ends} (h : PST X st t) (q : t D σ H) : WST X st D σ H := fun pins s h0 I => h pins s σ H D h0 I q
theorem wbt_of {t : TS} {σ : L2.St} {H : Hp} {D : Ends} (h : PSsT X bd t) (q : t D σ H) : WBT X bd D σ H := fun pins s h0 I => h pins s σ H D h0 I q
end
def PVT (X : Cx) (e : Expr) (f : FD) : Prop := ∀ (env : Ev) (σ : L2.St) (fp : Fp) (Hs H : Hp) (d : D) (Q : VK), Rl X.K Hs H env σ fp → f env = some d → PoV X.K Hs H d Q → WET X e σ H Q
def FVT (X : Cx) (e : Expr) (f : FL) : Prop := ∀ (env : Ev) (σ : L2.St) (fp : Fp) (Hs H : Hp) (d : List D) (Q : VK), Rl X.K Hs H env σ fp → f env = some d → PoF X.K Hs H d Q → WET X e σ H Q
def SJT (X : Cx) (kp : List Nat) (st : Stmt) (G : GF) : Prop := ∀ (env : Ev) (σ : L2.St) (fp : Fp) (Hs H : Hp) (r : Fl) (D' : Ends), Rl X.K Hs H env σ fp → G env = some r → FlK X.K kp D' σ fp Hs H r → WST X st D' σ H
def BJT (X : Cx) (kp : List Nat) (bd : List Stmt) (G : GF) : Prop := ∀ (env : Ev) (σ : L2.St) (fp : Fp) (Hs H : Hp) (r : Fl) (D' : Ends), Rl X.K Hs H env σ fp → G env = some r → FlK X.K kp D' σ fp Hs H r → WBT X bd D' σ H
def IJT (X : Cx) (tg iter : Expr) (f : FL) : Prop := ∃ wi, PIT X tg iter wi ∧ ∀ (env : Ev) (σ : L2.St) (fp : Fp) (Hs H : Hp) (ds : List D) (R : It → Hp → Prop), Rl X.K Hs H env σ fp → f env = some ds →
  (∀ Hs' H' J, Grow Hs H Hs' H' → ItJ X.K Hs' J ds → R J H') → wi σ H R
def replD (y z : Str) : D → Option D
  | .str x => if x.length + (x.length + 1) * z.length ≤ 16777216 then some (.str (Txt.replace x y z)) else none
  | _ => none
def mulSD : D → D → Option D
  | .str x, .int n => if 0 ≤ n ∧ n < 100000 ∧ x.length ≤ 100 then some (.str (Txt.mul x n)) else none
  | _, _ => none
theorem mul_fits {x : Str} {n : Int} (h0 : 0 ≤ n) (h1 : n < 100000) (h2 : x.length ≤ 100) : MulOk x n := by
  have e : x.length * n.toNat ≤ 100 * 100000 := Nat.mul_le_mul h2 (by omega)
  refine ⟨?_, fun h3 _ => ?_, fun _ _ => ?_⟩
  · rw [Bool.or_eq_false_iff]
    exact ⟨decide_eq_false (by omega), decide_eq_false (by omega)⟩
  · have h4 : (x.length : Int) * n ≤ 2 ^ 63 - 1 := by
      have : ((x.length * n.toNat : Nat) : Int) = (x.length : Int) * n := by rw [Int.natCast_mul]; congr 1; omega
      omega
    have := (Int.le_ediv_iff_mul_le (c := n) (by omega)).2 h4
    omega
  · have h5 : x.length * n.toNat ≤ sizeLine := by rw [ln_eq]; show _ ≤ 16777216; omega
    unfold PySem.Builtin.Str.tooLong
    exact decide_eq_false (by omega)
theorem mul_tl (x : Str) (n : Int) : tl (Txt.mul x n) = (List.replicate n.toNat (tl x)).flatten := by
  unfold Txt.mul
  split
  · have : n.toNat = 0 := by omega
    rw [this]; rfl
  · split
    · rename_i h1 h
      rw [Bool.or_eq_true] at h
      rcases h with h | h
      · have : n = 1 := by simpa using h
        subst this
        show tl x = (tl x ++ [])
        rw [List.append_nil]
      · have : (tl x) = [] := (len0_tl x).1 (by simpa using h)
        rw [this]
        induction n.toNat with
        | zero => rfl
        | succ m ih => rw [List.replicate_succ, List.flatten_cons, ← ih]; rfl
    · have : ∀ (m : Nat) (acc : Array Nat), ((List.replicate m x.cps).foldl (· ++ ·) acc).toList = acc.toList ++ (List.replicate m (tl x)).flatten := by
        intro m
        induction m with
        | zero => intro acc; simp
        | succ m ih =>
          intro acc
          rw [List.replicate_succ, List.foldl_cons, ih, Array.toList_append, List.replicate_succ, List.flatten_cons, List.append_assoc]
      exact this n.toNat #[]
def rstripD : D → Option D
  | .str x => if x.length ≤ LN then some (.str (Txt.rstrip x)) else none
  | _ => none
def fLrg2 (f g : FD) : FL := fun e => (f e).bind fun x => (g e).bind fun y => match x, y with
  | .int i, .int j => if 0 ≤ i ∧ i.toNat ≤ LN ∧ 0 ≤ j ∧ j.toNat ≤ LN then some (rngD i (j - i).toNat) else none
  | _, _ => none
section
variable {X : Cx} {a b : Expr} {f g : FD} {pos p p1 p2 : Pos}
theorem fv_listRg2 (hc : X.calm = true) (hl : Gl X "list") (hlm : X.mg "list" = none) (hr : Gl X "range") (hrm : X.mg "range" = none) (ha : PV X a f) (hb : PV X b g) (na : starEach [a, b] X.env = (false, eval a X.env) :: starEach [b] X.env := by rfl)
    (nb : starEach [b] X.env = (false, eval b X.env) :: starEach [] X.env := by rfl) (hp : (backTo p2 (starEach [b] X.env)).any (·.1) = false := by rfl)
    (nr : starEach [.Call (.Name "range" p1) [a, b] [] p2] X.env = (false, eval (.Call (.Name "range" p1) [a, b] [] p2) X.env) :: starEach [] X.env := by rfl) : FV X (.Call (.Name "list" p) [.Call (.Name "range" p1) [a, b] [] p2] [] pos) (fLrg2 f g) := by
  intro env σ fp Hs H xs Q rl e q
  obtain ⟨d, e1, e⟩ := bind2 (γ := Unit) e
  obtain ⟨d2, e2, e⟩ := bind2 (γ := Unit) e
  cases d <;> cases d2 <;> simp only at e <;> try contradiction
  split at e <;> try contradiction
  rename_i hj
  injection e with e; subst e
  refine we_of (pe_listRg hc hl hlm (prg_2 hr hrm pe_we pe_we na nb hp) nr) (ha env σ fp Hs H _ _ rl e1 fun Hs1 H1 v g1 r1 => hb env σ fp Hs1 H1 _ _ (g1.rl rl) e2 fun Hs2 H2 u g2 r2 => ?_)
  cases r1
  cases r2
  refine ⟨_, _, rfl, rfl, RgOk.of_le hj.1 (by have : LN = 16777216 := rfl; omega) (by have : LN = 16777216 := rfl; omega) hj.2.2.1, fun t ht => (q.go (g1.trans g2)).new (g1.trans g2).sub ?_ ht⟩
  unfold rgV rngD
  exact rpl_ints (K := X.K) (H := Hs2) (fun k => _ + (k : Nat)) _
end
section
variable {X : Cx} {kp : List Nat} {o e : Expr} {st : Stmt} {bd rest : List Stmt} {f : FD} {fl : FL} {g h : GF} {apos pos : Pos}
theorem PV.tk (ha : PV X e f) : PVT X e f := fun env σ fp Hs H d Q rl e1 q => wet_of (CwR.PET.of pe_we) (ha env σ fp Hs H d Q rl e1 q)
theorem SJ.tk (h1 : SJ X kp st g) : SJT X kp st g := fun env σ fp Hs H r D' rl e q => wst_of (PST.of ps_ws) (h1 env σ fp Hs H r D' rl e q)
theorem BJ.tk (h1 : BJ X kp bd g) : BJT X kp bd g := fun env σ fp Hs H r D' rl e q => wbt_of (PSsT.of pss_wb) (h1 env σ fp Hs H r D' rl e q)
theorem bjt_cons (h1 : SJT X kp st g) (h2 : BJT X kp rest h) : BJT X kp (st :: rest) (gSeq g h) := by
  intro env σ fp Hs H r D' rl e q
  obtain ⟨z, e1, e⟩ := bind2 (γ := Unit) e
  refine wbt_of (psst_cons pst_wst psst_wbt) (h1 env σ fp Hs H z _ rl e1 ?_)
  cases z with
  | nx e' => exact fun σ' fp' Hs' H' r' a' k' => h2 e' σ' fp' Hs' H' r D' r' e (FlK.go r q a' k')
  | rt d e' => injection e with e; subst e; exact q
  | rf d e' => injection e with e; subst e; exact q
  | ro d e' => injection e with e; subst e; exact q
  | bk e' => injection e with e; subst e; exact q
  | ct e' => injection e with e; subst e; exact q
theorem bj_int (i : Nat) {x : Str} {n : Int} {j} {p cpos : Pos} (hk : kp.contains i = false) (nd : X.N.Nodup) (hi : X.N[i]? = some x) (hx : Loc X.env.scope x) (h2 : BJT X kp rest h)
    (hs : swapsWith (.Constant (.int n) j cpos) (some (.Name x p)) pos.line X.env = pure false := by rfl) (hf : X.fn x = true ∨ X.env.scope.names.lookup x = some .local := by first | exact .inl rfl | exact .inr rfl | assumption) :
    BJ X kp (.Assign [.Name x p] (.Constant (.int n) j cpos) pos :: rest) (gSeq (gSet i (fC (.int n))) h) := by
  intro env σ fp Hs H r D' rl e q
  obtain ⟨z, e1, e⟩ := bind2 (γ := Unit) e
  obtain ⟨d, e0, e1⟩ := bind2 (γ := Unit) e1
  injection e0 with e0; subst e0
  split at e1 <;> try contradiction
  rename_i hl
  injection e1 with e1; subst e1
  intro pins s I
  refine wpAny_execs_cons (wpAny_Assign_Name (wpAny_Constant_int ?_) hs)
  refine wpAny_mono (PySem.wpAny_toks (store_ok (v := V.int n) (u := Value.int n s.toks) (Q := fun _ s2 => Inv X pins (σ.set i (some (V.int n))) H s2) (I.tok (s.toks + 1)) nd hi hx ⟨s.toks, rfl⟩ (fun _ I2 => I2) hf)) (fun _ s2 q1 => ?_) fun _ _ z => z.2
  have hk1 : s.toks + 1 ≤ s2.toks := q1.1
  exact h2 _ _ _ Hs H r D' (rl.putSh hl (.i n)) e (FlK.go r q Adv.pt0 (Kp.set hk)) pins s2 (by omega) q1.2
theorem pvt_repl {y z : Str} {j k : Nat} {c0 c1 : Pos} (ha : PVT X o f) (hyz : (y == z) = false := by decide)
    (hst : starEach [.Constant (.str y) j c0, .Constant (.str z) k c1] X.env = [(false, eval (.Constant (.str y) j c0) X.env), (false, eval (.Constant (.str z) k c1) X.env)] := by rfl)
    (hbase : attributeBase o "replace" X.env (eval o X.env) = eval o X.env := by rfl) (hline : (apos.endLine == pos.line) = true := by rfl) :
    PVT X (.Call (.Attribute o "replace" apos) [.Constant (.str y) j c0, .Constant (.str z) k c1] [] pos) (f1 (replD y z) f) := by
  intro env σ fp Hs H d Q rl e q
  obtain ⟨d1, e1, e⟩ := bind2 (γ := Unit) e
  unfold replD at e
  split at e <;> try contradiction
  split at e <;> try contradiction
  rename_i hz
  injection e with e; subst e
  refine wet_of (CwR.pet_replT pet_wet hyz hst hbase hline) (ha env σ fp Hs H _ _ rl e1 fun Hs1 H1 u g1 r1 => ?_)
  cases r1
  exact ⟨_, rfl, hz, (q.go g1).at g1.sub (.s _)⟩
theorem od_mulS : OpD X (binaryOp .Mult) mulSD := by
  intro pins s σ Hs H x y v u a b d Q I sm rx ry ra rb e q
  unfold mulSD at e
  split at e <;> try contradiction
  split at e <;> try contradiction
  rename_i h
  injection e with e; subst e
  cases ra
  cases rb
  obtain ⟨t, rfl⟩ := rx
  obtain ⟨t', rfl⟩ := ry
  exact SB.mul (mul_fits h.1 h.2.1 h.2.2) fun t2 k => ⟨.str _, H, I.tok k, ⟨t2, rfl⟩, q.at sm (.s _)⟩
theorem pv_rstrip (ha : PV X o f) (hbase : attributeBase o "rstrip" X.env (eval o X.env) = eval o X.env := by rfl) (hline : (apos.endLine == pos.line) = true := by rfl) :
    PV X (.Call (.Attribute o "rstrip" apos) [] [] pos) (f1 rstripD f) := by
  intro env σ fp Hs H d Q rl e q
  obtain ⟨d1, e1, e⟩ := bind2 (γ := Unit) e
  unfold rstripD at e
  split at e <;> try contradiction
  split at e <;> try contradiction
  rename_i hz
  injection e with e; subst e
  refine we_of (pe_m0 F.slot_str_rstrip F.type_str_rstrip mt_rstrip pe_we hbase hline) (ha env σ fp Hs H _ _ rl e1 fun Hs1 H1 u g1 r1 => ?_)
  cases r1
  exact ⟨⟨_, rfl⟩, _, rfl, rfl, by rw [ln_eq]; exact hz, (q.go g1).at g1.sub (.s _)⟩
theorem pet_m0 {id : String} {name : Str} {r : V → List V → Hp → VK → Prop} {to : TE} (slot : Slot "str" name id) (ty : typeOf (.builtin id) = pure (.type "method_descriptor")) (rule : MtR X id r) (ho : PET X o to)
    (hbase : attributeBase o name X.env (eval o X.env) = eval o X.env := by rfl) (hline : (apos.endLine == pos.line) = true := by rfl) : PET X (.Call (.Attribute o name apos) [] [] pos) (tM0 r to) := by
  intro pins s σ H Q h0 I h
  refine PySem.Call_method0 hbase hline (thn (ho pins s σ H _ h0 I h) fun v s1 ⟨x, H1, I1, r1, q1⟩ => ?_)
  obtain ⟨⟨a, rfl⟩, q1⟩ := q1
  obtain ⟨t, rfl⟩ := _root_.id r1
  exact ⟨"str", _, F.plainAttrs_str, slot, ty, typeIs_str _ _ _, (fun _ e => nomatch e), Calls.callWith_builtin rfl (PySem.evalArgs_none (rule pins s1 σ H1 _ [] _ [] Q I1 r1 .nil q1))⟩
theorem fvt_words (ha : PVT X o f) (hbase : attributeBase o "split" X.env (eval o X.env) = eval o X.env := by rfl) (hline : (apos.endLine == pos.line) = true := by rfl) :
    FVT X (.Call (.Attribute o "split" apos) [] [] pos) (fWords f) := by
  intro env σ fp Hs H xs Q rl e q
  obtain ⟨d, e1, e⟩ := bind2 (γ := Unit) e
  cases d <;> simp only at e <;> try contradiction
  split at e <;> try contradiction
  rename_i a hz
  injection e with e; subst e
  refine wet_of (pet_m0 F.slot_str_split F.type_str_split mt_words pet_wet hbase hline) (ha env σ fp Hs H _ _ rl e1 fun Hs1 H1 u g1 r1 => ?_)
  cases r1
  exact ⟨⟨_, rfl⟩, _, rfl, rfl, by rw [ln_eq]; exact hz, fun p hp => (q.go g1).new g1.sub (rp_strs _) hp⟩
theorem FVT.pv (h1 : FVT X e fl) : PVT X e (fTold fl) := by
  intro env σ fp Hs H d Q r e q
  unfold fTold at e
  cases ex : fl env with
  | none => rw [ex] at e; cases e
  | some xs => rw [ex] at e; injection e with e; subst e; exact h1 env σ fp Hs H xs Q r ex q.f
theorem ijt_list {tg : Expr} (ha : PVT X e f) : IJT X tg e (iSeq f) := by
  refine ⟨_, pit_list pet_wet, fun env σ fp Hs H ds R rl e q => ?_⟩
  obtain ⟨d, e1, e⟩ := bind2 (γ := Unit) e
  cases d <;> simp only at e <;> try contradiction
  injection e with e; subst e
  refine ha env σ fp Hs H _ _ rl e1 fun Hs1 H1 v g1 r1 => ?_
  cases r1 with
  | l h r => exact ⟨_, rfl, ⟨_, (same_rd g1.sub h)⟩, q Hs1 H1 _ g1 (itj_list h r)⟩
theorem sjt_for {X : Cx} {kp sl : List Nat} {tg iter : Expr} {bd : List Stmt} {pos : Pos} {f : FL} {A : AF} {g : GF} (hk : sl.all (fun i => !kp.contains i) = true) (hp : PassesOwn (model X.prog X.w) X.A X.env X.xe) (hc : X.calm = true)
    (hi : IJT X tg iter f) (ht : TJ X tg sl A) (hb : BJ X kp bd g) (hs : ∀ x, foldedSetIterable iter X.env x = pure x := by intro _; rfl) : SJT X kp (.For tg iter bd [] pos) (gFor f A g) := by
  obtain ⟨wi, pi, ki⟩ := hi
  obtain ⟨gt, pgt, kt⟩ := ht
  intro env σ fp Hs H r D' rl e q
  obtain ⟨ds, e1, e⟩ := bind2 (γ := Unit) e
  refine wst_of (pst_for hp hc pi pgt pss_wb hs) (ki env σ fp Hs H ds _ rl e1 fun Hs1 H1 J g1 itj => ?_)
  have kl : ∀ j ∈ kp, j ∉ sl := fun j hj z => by
    have := List.all_eq_true.mp hk j z
    rw [List.contains_iff_mem.mpr hj] at this; cases this
  refine ⟨fun i m σ' H' => m + i = ds.length ∧ ∃ env' fp' Hs', Rl X.K Hs' H' env' σ' fp' ∧ Same Hs1 Hs' ∧ forG A g (ds.drop i) env' = some r ∧ FlK X.K kp D' σ' fp' Hs' H' r, ⟨ds.length, rfl, env, fp, Hs1, g1.rl rl, Same.refl _, by simpa using e, FlK.go r q g1.adv Kp.refl⟩, ?_⟩
  rintro i m σ' H' ⟨hm, env', fp', Hs', rl', sm', e', q'⟩
  by_cases hi : i < ds.length
  · right
    refine ⟨itj.go i H' (sm'.trans rl'.sub) hi, fun σ2 H2 => (m - 1) + (i + 1) = ds.length ∧ ∃ env2 fp2 Hs2, Rl X.K Hs2 H2 env2 σ2 fp2 ∧ Same Hs1 Hs2 ∧ forG A g (ds.drop (i + 1)) env2 = some r ∧ FlK X.K kp D' σ2 fp2 Hs2 H2 r, fun σ2 H2 h => ⟨m - 1, by omega, h⟩, fun x H2 y => ?_⟩
    rw [List.drop_eq_getElem_cons hi] at e'
    obtain ⟨env1, e2, e'⟩ := bind2 (γ := Unit) e'
    obtain ⟨z, e3, e'⟩ := bind2 (γ := Unit) e'
    obtain ⟨Hs2, g2, rx⟩ := itj.yld i H' x H2 Hs' sm' rl'.sub y ds[i] (List.getElem?_eq_getElem hi)
    refine kt env' σ' fp' Hs2 H2 ds[i] x env1 _ (g2.rl rl') rx e2 fun σ3 fp3 r3 a3 o3 => ?_
    have k3 : Kp kp σ' fp' σ3 fp3 := fun j hj => o3.2 j (kl j hj)
    have q3 : FlK X.K kp D' σ3 fp3 Hs2 H2 r := FlK.go r q' ((g2.adv).trans a3) k3
    refine hb env1 σ3 fp3 Hs2 H2 z _ r3 e3 ?_
    cases z with
    | nx e2 => exact fun σ4 fp4 Hs4 H4 r4 a4 k4 => ⟨by omega, e2, fp4, Hs4, r4, (sm'.trans g2.same).trans a4.same, e', FlK.go r q3 a4 k4⟩
    | ct e2 => exact fun σ4 fp4 Hs4 H4 r4 a4 k4 => ⟨by omega, e2, fp4, Hs4, r4, (sm'.trans g2.same).trans a4.same, e', FlK.go r q3 a4 k4⟩
    | bk e2 => injection e' with e'; subst e'; exact q3
    | rt d e2 => injection e' with e'; subst e'; exact q3
    | rf d e2 => injection e' with e'; subst e'; exact q3
    | ro d e2 => injection e' with e'; subst e'; exact q3
  · left
    have e0 : i = ds.length := by omega
    subst e0
    refine ⟨itj.stop H' (sm'.trans rl'.sub), ?_⟩
    rw [List.drop_length] at e'
    injection e' with e'; subst e'
    exact q' σ' fp' Hs' H' rl' Adv.refl Kp.refl
end
end TL
set_option Elab.async false
set_option linter.all false
set_option maxRecDepth 100000
namespace TL
open PySem PySem.Spec L2
open PyProof.Rows hiding St
def kdN : D → Nat
  | .none => 0
  | .bool _ => 1
  | .int _ => 2
  | .str _ => 3
  | .list _ => 4
  | .tuple _ => 5
  | .dict _ => 6
def difH (x d : D) : Bool := decide (kdN x ≠ kdN d) && decide (kdN x < 6) && decide (kdN d < 6)
def difS (xs ds : List D) : Bool := decide (xs.length ≠ ds.length) || (match xs, ds with
  | x :: _, d :: _ => difH x d
  | _, _ => false)
mutual
def apD (xs : List D) : D → Bool
  | .list ds => difS xs ds && apL xs ds
  | .tuple ds => apL xs ds
  | .dict kvs => apK xs kvs
  | _ => true
def apL (xs : List D) : List D → Bool
  | [] => true
  | d :: ds => apD xs d && apL xs ds
def apK (xs : List D) : List (D × D) → Bool
  | [] => true
  | (_, d) :: r => apD xs d && apK xs r
end
def cutH (H : Hp) (a : Addr) : Hp := fun b => if b = a then none else H b
theorem cutH_ne {H : Hp} {a b : Addr} (h : b ≠ a) : cutH H a b = H b := if_neg h
def Cla (K : PySem.W.Frag) (H : Hp) : Prop := ∀ b us ws, SqL K H b us → SqT K H b ws → False
theorem Rp.kind {K : PySem.W.Frag} {H : Hp} (c : Cla K H) {v : V} {x d : D} (h1 : Rp K H v x) (h2 : Rp K H v d) (n1 : kdN x < 6) (n2 : kdN d < 6) : kdN x = kdN d := by
  cases h1 <;> cases h2 <;> first | rfl | (simp [kdN] at n1; done) | (simp [kdN] at n2; done) | skip
  · exact (c _ _ _ ‹_› ‹_›).elim
  · exact (c _ _ _ ‹_› ‹_›).elim
theorem difS_no {K : PySem.W.Frag} {H : Hp} (c : Cla K H) {vs : List V} {xs ds : List D} (h1 : RpL K H vs xs) (h2 : RpL K H vs ds) : difS xs ds = false := by
  cases h1 with
  | nil => cases h2; rfl
  | cons p1 r1 =>
    cases h2 with
    | cons p2 r2 =>
      rename_i v vs x xs d ds
      have e1 := r1.len
      have e2 := r2.len
      have : ¬ (x :: xs).length ≠ (d :: ds).length := by simp; omega
      simp only [difS, decide_eq_false this, Bool.false_or]
      unfold difH
      by_cases n1 : kdN x < 6
      · by_cases n2 : kdN d < 6
        · simp [p1.kind c p2 n1 n2]
        · simp [n2]
      · simp [n1]
section
variable {K : PySem.W.Frag} {H : Hp} {a : Addr} {us : List V} {xs : List D} (c : Cla K H) (ha : H a = some (.lst us)) (hx : RpL K H us xs)
include c ha hx
theorem sq_cut {b : Addr} {vs : List V} {ds : List D} (h : SqL K H b vs) (r : RpL K H vs ds) (d : difS xs ds = true) : SqL K (cutH H a) b vs := by
  rcases h with (h | ⟨o, h⟩) | h
  · by_cases e : b = a
    · subst e
      rw [ha] at h; cases h
      rw [difS_no c hx r] at d; cases d
    · exact .inl (.inl (by rw [cutH_ne e]; exact h))
  · by_cases e : b = a
    · subst e; rw [ha] at h; cases h
    · exact .inl (.inr ⟨o, by rw [cutH_ne e]; exact h⟩)
  · exact .inr h
omit c hx in
theorem sqT_cut {b : Addr} {vs : List V} (h : SqT K H b vs) : SqT K (cutH H a) b vs := by
  rcases h with (h | ⟨o, h⟩) | h
  · by_cases e : b = a
    · subst e; rw [ha] at h; cases h
    · exact .inl (.inl (by rw [cutH_ne e]; exact h))
  · by_cases e : b = a
    · subst e; rw [ha] at h; cases h
    · exact .inl (.inr ⟨o, by rw [cutH_ne e]; exact h⟩)
  · exact .inr h
omit c hx in
theorem rd_cut {b : Addr} {vs : List (Key × V)} (h : Rd H b (.dK vs)) : Rd (cutH H a) b (.dK vs) := by
  rcases h with h | ⟨o, h⟩
  · by_cases e : b = a
    · subst e; rw [ha] at h; cases h
    · exact .inl (by rw [cutH_ne e]; exact h)
  · by_cases e : b = a
    · subst e; rw [ha] at h; cases h
    · exact .inr ⟨o, by rw [cutH_ne e]; exact h⟩
mutual
theorem Rp.apart : ∀ (d : D) (v : V), Rp K H v d → apD xs d = true → Rp K (cutH H a) v d
  | .none, _, h, _ => by cases h; exact .n
  | .bool _, _, h, _ => by cases h; exact .b _
  | .int _, _, h, _ => by cases h; exact .i _
  | .str _, _, h, _ => by cases h; exact .s _
  | .list ds, _, h, e => by
    cases h with
    | l h r =>
      simp only [apD, Bool.and_eq_true] at e
      exact .l (sq_cut c ha hx h r e.1) (RpL.apart ds _ r e.2)
  | .tuple ds, _, h, e => by
    cases h with
    | t h r =>
      simp only [apD] at e
      exact .t (sqT_cut ha h) (RpL.apart ds _ r e)
  | .dict kvs, _, h, e => by
    cases h with
    | d h r =>
      simp only [apD] at e
      exact .d (rd_cut ha h) (RpK.apart kvs _ r e)
theorem RpL.apart : ∀ (ds : List D) (vs : List V), RpL K H vs ds → apL xs ds = true → RpL K (cutH H a) vs ds
  | [], _, h, _ => by cases h; exact .nil
  | d :: ds, _, h, e => by
    cases h with
    | cons h r =>
      simp only [apL, Bool.and_eq_true] at e
      exact .cons (Rp.apart d _ h e.1) (RpL.apart ds _ r e.2)
theorem RpK.apart : ∀ (ds : List (D × D)) (vs : List (Key × V)), RpK K H vs ds → apK xs ds = true → RpK K (cutH H a) vs ds
  | [], _, h, _ => by cases h; exact .nil
  | (_, d) :: ds, _, h, e => by
    cases h with
    | cons h r =>
      simp only [apK, Bool.and_eq_true] at e
      exact .cons (Rp.apart d _ h e.1) (RpK.apart ds _ r e.2)
end
end
end TL
set_option Elab.async false
set_option linter.all false
set_option maxRecDepth 100000
namespace TL
open PySem PySem.Spec L2
open PyProof.Rows hiding St
section
variable {K : PySem.W.Frag} {Hs H Hs1 H1 : Hp} {e : Ev} {σ : L2.St} {fp : Fp}
end
section
variable {X : Cx} {kp : List Nat} {a b : Expr} {F : EL} {G : EF} {pos p apos cpos p2 : Pos} {x : Str}
end
end TL
set_option Elab.async false
set_option linter.all false
set_option maxRecDepth 100000
namespace TL
open PySem PySem.Spec L2
open PyProof.Rows hiding St
section
variable {X : Cx}
variable {kp : List Nat} {a b : Expr} {f g : FD} {pos p tpos : Pos} {x : Str}
end
mutual
def noK : D → Bool
  | .list ds => noKL ds
  | .tuple ds => noKL ds
  | .dict _ => false
  | _ => true
def noKL : List D → Bool
  | [] => true
  | d :: ds => noK d && noKL ds
end
section
variable {K : PySem.W.Frag} {H : Hp} {a : Addr} {us : List (Key × V)} (ha : H a = some (.dK us))
include ha
theorem sqL_cutD {b : Addr} {vs : List V} (h : SqL K H b vs) : SqL K (cutH H a) b vs := by
  rcases h with (h | ⟨o, h⟩) | h
  · by_cases e : b = a
    · subst e; rw [ha] at h; cases h
    · exact .inl (.inl (by rw [cutH_ne e]; exact h))
  · by_cases e : b = a
    · subst e; rw [ha] at h; cases h
    · exact .inl (.inr ⟨o, by rw [cutH_ne e]; exact h⟩)
  · exact .inr h
theorem sqT_cutD {b : Addr} {vs : List V} (h : SqT K H b vs) : SqT K (cutH H a) b vs := by
  rcases h with (h | ⟨o, h⟩) | h
  · by_cases e : b = a
    · subst e; rw [ha] at h; cases h
    · exact .inl (.inl (by rw [cutH_ne e]; exact h))
  · by_cases e : b = a
    · subst e; rw [ha] at h; cases h
    · exact .inl (.inr ⟨o, by rw [cutH_ne e]; exact h⟩)
  · exact .inr h
mutual
theorem Rp.noK : ∀ (d : D) (v : V), Rp K H v d → TL.noK d = true → Rp K (cutH H a) v d
  | .none, _, h, _ => by cases h; exact .n
  | .bool _, _, h, _ => by cases h; exact .b _
  | .int _, _, h, _ => by cases h; exact .i _
  | .str _, _, h, _ => by cases h; exact .s _
  | .list ds, _, h, e => by
    cases h with
    | l h r =>
      simp only [TL.noK] at e
      exact .l (sqL_cutD ha h) (RpL.noK ds _ r e)
  | .tuple ds, _, h, e => by
    cases h with
    | t h r =>
      simp only [TL.noK] at e
      exact .t (sqT_cutD ha h) (RpL.noK ds _ r e)
  | .dict kvs, _, h, e => by simp [TL.noK] at e
theorem RpL.noK : ∀ (ds : List D) (vs : List V), RpL K H vs ds → noKL ds = true → RpL K (cutH H a) vs ds
  | [], _, h, _ => by cases h; exact .nil
  | d :: ds, _, h, e => by
    cases h with
    | cons h r =>
      simp only [noKL, Bool.and_eq_true] at e
      exact .cons (Rp.noK d _ h e.1) (RpL.noK ds _ r e.2)
end
end
end TL
set_option Elab.async false
set_option linter.all false
set_option maxRecDepth 100000
namespace TL
open PySem PySem.Spec L2
open PyProof.Rows hiding St
structure CalN (P : Program) (w : World) (K : PySem.W.Frag) (mg : Str → Option Value) (base : Heap) (k : Nat) (x : Str) (ps : List Str) (sp : Sp) (kss : List (List Str × List Nat)) : Prop where
  ex : ∃ (f : Addr) (fd : FuncData), FnG P w K mg base CX0 k f fd ps sp ∧ mg x = some (.ref f) ∧ PySem.W.keepIn K (.ref f) = true ∧ Binds K fd ps [] ∧ (∀ q ∈ kss, KwB fd ps q.1 q.2) ∧ PySem.W.nsIn K mainGlobals x = some (some (.ref f))
section
variable {X : Cx} {CX : CXT} {k : Nat} {f : Addr} {fd : FuncData} {ps : List Str} {x : Str} {p pos : Pos} {e : Expr} {es : List Expr} {fl : FL} {m : List D → Option D} {ml : List D → Option (List D)} {n : Nat} {E : XK} {sp : Sp} {dvs : List V} {ds : List Value} {t : TA} {y : Str}
end
section
variable {X : Cx} {es : List Expr} {a : Expr} {f : FD} {fl : FL} {x y : Str} {g : Addr} {p : Nat} {pos : Pos}
end
theorem RpL.split {K : PySem.W.Frag} {H : Hp} : ∀ {us ws : List V} {ds : List D}, RpL K H (us ++ ws) ds → RpL K H us (ds.take us.length) ∧ RpL K H ws (ds.drop us.length)
  | [], _, _, h => ⟨.nil, h⟩
  | u :: us, ws, _, .cons h r => ⟨.cons h (RpL.split r).1, (RpL.split r).2⟩
section
variable {P : Program} {w : World} {K : PySem.W.Frag} {mg : Str → Option Value} {base : Heap}
end
section
variable {X : Cx} {CX : CXT} {k : Nat} {f g : Addr} {fd : FuncData} {ps : List Str} {x : Str} {p pos : Pos} {e : Expr} {es : List Expr} {fl : FL} {m : List D → Option D} {ml : List D → Option (List D)} {n pl : Nat} {E : XK} {y : Str}
end
section
variable {X : Cx} {a b : Expr} {es : List Expr} {f g : FD} {fl : FL} {x : Str} {p pos apos cpos : Pos} {id : String} {k : List D → Option D}
end
section
variable {X : Cx}
end
end TL
set_option Elab.async false
set_option linter.all false
set_option maxRecDepth 100000
namespace TL
open PySem PySem.Spec L2
open PyProof.Rows hiding St
def FnS (P : Program) (w : World) (K : PySem.W.Frag) (mg : Str → Option Value) (base : Heap) (k : Nat) (f : Addr) (n : Nat) (m : List D → Option D) : Prop :=
  ∀ (A : Around) (o : List Env) (s : Shared) (Hs H : Hp) (us : List Value) (vs : List V) (ds : List D) (d : D) (Q : VK) (E : XK), A.guards = some [] → Room k A → Env0 P w K mg base A o s H → Vals vs us → Same Hs H → RpL K Hs vs ds → n ≤ ds.length → ds.length ≤ LN → m (ds.take n ++ [.tuple (ds.drop n)]) = some d → PoV K Hs H d Q →
    codeAny (model P w) A (.call (.ref f) ⟨us, []⟩) (CR CX0 o P w H s Q E) s
section
variable {P : Program} {w : World} {K : PySem.W.Frag} {mg : Str → Option Value} {base : Heap}
end
structure CalS (P : Program) (w : World) (K : PySem.W.Frag) (mg : Str → Option Value) (base : Heap) (k : Nat) (x : Str) (n : Nat) (m : List D → Option D) : Prop where
  ex : ∃ f : Addr, FnS P w K mg base k f n m ∧ mg x = some (.ref f) ∧ PySem.W.keepIn K (.ref f) = true
section
variable {X : Cx} {k : Nat} {f : Addr} {x : Str} {p pos : Pos} {e : Expr} {es : List Expr} {fl : FL} {m : List D → Option D} {n : Nat}
end
end TL
set_option Elab.async false
set_option linter.all false
set_option maxRecDepth 100000
namespace TL
open PySem PySem.Spec L2
open PyProof.Rows hiding St
end TL
set_option Elab.async false
set_option linter.all false
set_option maxRecDepth 100000
namespace TL
open PySem PySem.Spec L2
open PyProof.Rows hiding St
section
variable {X : Cx} {tg iter : Expr} {body : List Stmt} {wi : TI} {g : TG} {tb : TGn} {pos : Pos}
end
end TL
set_option Elab.async false
set_option linter.all false
set_option maxRecDepth 100000
set_option maxHeartbeats 1000000
namespace TL
open PySem PySem.Spec L2 GenW
open PyProof.Rows hiding St
abbrev SpL := List V → Hp → (List V → Hp → Prop) → Prop
def XF : XK := fun _ _ _ => False
def Wakes (P : Program) (w : World) (k : Nat) (o : List Env) (H : Hp) (s : Shared) (Q : List V → Hp → Prop) (a : Addr) (g : Nat) (c : Code) (sm : Shared) : Prop :=
  ∀ (A : Around) (S : Addr) (s2 : Shared), A.guards = some [] → Room k A → A.frames = some o → sm.heap.objs.size ≤ S → (∀ b u, sm.heap.get? b = some u → s2.heap.get? b = some u) → (∃ z, s2.heap.get? S = some (lstObj #[] z)) → s2.os = s.os → AllBare s2.gens →
    Seg (model P w) A (REnd P w o H s [] S a g Q XF) (YItem s S a g) sizeLine s2 c ((model P w).den c) [] s2
structure GMk (P : Program) (w : World) (k : Nat) (o : List Env) (H : Hp) (s : Shared) (Q : List V → Hp → Prop) (v : Value) (sm : Shared) (a : Addr) (g : Nat) (c : Code) : Prop where
  val : v = .ref a
  lo : s.heap.objs.size ≤ a
  hi : a < sm.heap.objs.size
  gen : sm.heap.IsGen a g
  fresh : sm.gens[g]? = some (.fresh c)
  os : sm.os = s.os
  bare : AllBare sm.gens
  nl : sm.heap.NoLimit
  keep : ∀ b u, s.heap.get? b = some u → sm.heap.get? b = some u
  wake : Wakes P w k o H s Q a g c sm
structure FnL (P : Program) (w : World) (K : PySem.W.Frag) (mg : Str → Option Value) (base : Heap) (k : Nat) (f : Addr) (fd : FuncData) (ps : List Str) (sp : SpL) : Prop where
  len : ∀ vs H Q, sp vs H Q → vs.length = ps.length
  go : ∀ (A : Around) (o : List Env) (s : Shared) (H : Hp) (ar : Args) (us : List Value) (vs : List V) (Q : List V → Hp → Prop), A.guards = some [] → Room k A → Env0 P w K mg base A o s H → BindsTo s fd ar (ps.zip us) → Vals vs us → sp vs H Q →
    codeAny (model P w) A (.call (.ref f) ar) (fun r s' => ∃ v a g c, r = .ok (.ret v) ∧ GMk P w k o H s Q v s' a g c) s

section
variable {X : Cx} {S : Addr} {ip : List (Addr × Obj)} {ys : List V} {σ : L2.St} {H : Hp} {s s0 : Shared} {A : Around} {R : GenEnd} {n : Nat} {c : Code} {t : Sem PySem.Fin} {fs : List Frame} {E : Value → Shared → Prop}
end
section
variable {P : Program} {w : World} {K : PySem.W.Frag} {mg : Str → Option Value} {base : Heap}
end
end TL
set_option Elab.async false
set_option linter.all false
set_option maxRecDepth 100000
set_option maxHeartbeats 1000000
namespace TL
open PySem PySem.Spec L2 GenW
open PyProof.Rows hiding St
section
variable {X : Cx} {k : Nat} {f : Addr} {fd : FuncData} {ps : List Str} {x : Str} {p p' pos pos' : Pos} {e : Expr} {es : List Expr}
end
abbrev GL := Ev → Option (List D)
section
variable {X : Cx} {st : Stmt} {rest : List Stmt} {g : GF} {G : GL}
end
section
variable {X : Cx} {tg iter elt : Expr} {sl : List Nat} {f : FL} {A : AF} {ge : FD} {pos yp ep : Pos}
end
section
variable {P : Program} {w : World} {K : PySem.W.Frag} {mg : Str → Option Value} {base : Heap}
end
structure CalL (P : Program) (w : World) (K : PySem.W.Frag) (mg : Str → Option Value) (base : Heap) (k : Nat) (x : Str) (ps : List Str) (sp : SpL) : Prop where
  ex : ∃ (f : Addr) (fd : FuncData), FnL P w K mg base k f fd ps sp ∧ mg x = some (.ref f) ∧ PySem.W.keepIn K (.ref f) = true ∧ Binds K fd ps []
end TL
set_option Elab.async false
set_option linter.all false
set_option maxRecDepth 100000
namespace TL
open PySem PySem.Spec L2
open PyProof.Rows hiding St
section
variable {X : Cx} {a b c : Expr} {ta : TA} {fl : FL} {p p1 p2 pos : Pos}
end
end TL
set_option Elab.async false
set_option linter.all false
set_option maxRecDepth 100000
namespace TL
open PySem PySem.Spec L2
open PyProof.Rows hiding St
section
variable {X : Cx} {a b : Expr} {rest : List Expr} {pos : Pos} {F G : EF}
end
end TL
set_option Elab.async false
set_option linter.all false
set_option maxRecDepth 100000
namespace TL
open PySem PySem.Spec L2
open PyProof.Rows hiding St
theorem PoO.go {K : PySem.W.Frag} {Hs H Hs' H' : Hp} {xss : List (List D)} {Q : VK} (h : PoO K Hs H xss Q) (g : Grow Hs H Hs' H') (s : Same Hs H) : PoO K Hs' H' xss Q := fun Hs2 H2 p as g2 n o h1 h2 => h Hs2 H2 p as (g.trans g2) (fun b m => ⟨g.keep.free (n b m).1, (n b m).2⟩) o h1 h2
def OV (X : Cx) (e : Expr) (f : Ev → Option (List (List D))) : Prop := ∀ (env : Ev) (σ : L2.St) (fp : Fp) (Hs H : Hp) (xss : List (List D)) (Q : VK), Rl X.K Hs H env σ fp → f env = some xss → PoO X.K Hs H xss Q → WE X e σ H Q
section
variable {X : Cx} {kp : List Nat} {a b : Expr} {f : Ev → Option (List (List D))} {g : FD} {pos p : Pos} {x : Str}
end
section
variable {P : Program} {w : World} {K : PySem.W.Frag} {mg : Str → Option Value} {base : Heap}
end
section
variable {X : Cx} {CX : CXT} {k : Nat} {f g : Addr} {fd : FuncData} {ps : List Str} {x : Str} {p pos : Pos} {e : Expr} {es : List Expr} {fl : FL} {ml : List D → Option (List (List D))} {n pl : Nat} {E : XK} {y : Str}
end
def FnSF (P : Program) (w : World) (K : PySem.W.Frag) (mg : Str → Option Value) (base : Heap) (k : Nat) (f : Addr) (n : Nat) (m : List D → Option (List D)) : Prop :=
  ∀ (A : Around) (o : List Env) (s : Shared) (Hs H : Hp) (us : List Value) (vs : List V) (ds d : List D) (Q : VK) (E : XK), A.guards = some [] → Room k A → Env0 P w K mg base A o s H → Vals vs us → Same Hs H → RpL K Hs vs ds → n ≤ ds.length → ds.length ≤ LN → m (ds.take n ++ [.tuple (ds.drop n)]) = some d → PoF K Hs H d Q →
    codeAny (model P w) A (.call (.ref f) ⟨us, []⟩) (CR CX0 o P w H s Q E) s
section
variable {P : Program} {w : World} {K : PySem.W.Frag} {mg : Str → Option Value} {base : Heap}
end
structure CalSF (P : Program) (w : World) (K : PySem.W.Frag) (mg : Str → Option Value) (base : Heap) (k : Nat) (x : Str) (n : Nat) (m : List D → Option (List D)) : Prop where
  ex : ∃ f : Addr, FnSF P w K mg base k f n m ∧ mg x = some (.ref f) ∧ PySem.W.keepIn K (.ref f) = true
section
variable {X : Cx} {k : Nat} {f : Addr} {x : Str} {p pos : Pos} {e : Expr} {es : List Expr} {fl : FL} {m : List D → Option (List D)} {n : Nat}
end
open Classical in
theorem PoV.o {K : PySem.W.Frag} {Hs H : Hp} {xss : List (List D)} {Q : VK} (h : PoV K Hs H (.list (xss.map .list)) Q) (s0 : Same Hs H) : PoO K Hs H xss Q := by
  intro Hs' H' p as g n nd hp ro
  have sm : Same Hs' (fun b => if b ∈ p :: as then H' b else Hs' b) := fun b u hu => by
    show (if b ∈ p :: as then H' b else Hs' b) = _
    split
    · rename_i m; rw [(n b m).2] at hu; cases hu
    · exact hu
  refine h (fun b => if b ∈ p :: as then H' b else Hs' b) H' (.ref p) ⟨g.same.trans sm, g.keep, fun b u hu => ?_, fun b u hu => ?_⟩ (.l (.inl (.inl (?_ : _ = some (HO.lst (as.map V.ref))))) (or_told sm ro fun b m => if_pos (List.mem_cons_of_mem _ m)))
  · have hu : (if b ∈ p :: as then H' b else Hs' b) = some u := hu
    split at hu
    · exact hu
    · exact g.sub b u hu
  · have hu : (if b ∈ p :: as then H' b else Hs' b) = some u := hu
    split at hu
    · rename_i m; exact .inr (n b m).1
    · exact g.fre b u hu
  · show (if p ∈ p :: as then H' p else Hs' p) = _
    rw [if_pos List.mem_cons_self, hp]
def fTO (f : Ev → Option (List (List D))) : FD := fun e => (f e).map fun xss => .list (xss.map .list)
section
variable {X : Cx} {a : Expr} {f : Ev → Option (List (List D))} {fl : FL}
theorem OV.pv (ha : OV X a f) : PV X a (fTO f) := by
  intro env σ fp Hs H d Q rl e q
  obtain ⟨xss, e1, e2⟩ := prod2 (β := Unit) e
  subst e2
  exact ha env σ fp Hs H xss Q rl e1 (q.o rl.sub)
end
end TL
set_option Elab.async false
set_option linter.all false
set_option maxRecDepth 100000
namespace TL
open PySem PySem.Spec L2
open PyProof.Rows hiding St
section
variable {X : Cx} {kp : List Nat} {a b c : Expr} {f g h : FD} {pos p apos cpos p2 : Pos} {x : Str}
end
end TL
set_option Elab.async false
set_option linter.all false
set_option maxRecDepth 100000
namespace TL
open PySem PySem.Spec L2
open PyProof.Rows hiding St
end TL
set_option Elab.async false
set_option linter.all false
set_option maxRecDepth 100000
namespace TL
open PySem PySem.Spec L2
open PyProof.Rows hiding St
section
variable {X : Cx} {a : Expr} {f : FD} {p p2 pos pos2 : Pos}
end
end TL
set_option Elab.async false
set_option linter.all false
set_option maxRecDepth 100000
namespace TL
open PySem PySem.Spec L2
open PyProof.Rows hiding St
theorem Rl.other {K : PySem.W.Frag} {Hs H : Hp} {e : Ev} {σ : L2.St} {fp : Fp} {p : Addr} {o : HO} (r : Rl K Hs H e σ fp) (n : Hs p = none) (nf : ∀ j, p ∉ fp j) : Rl K Hs (upd H p o) e σ fp := by
  refine ⟨r.len, fun j s h => ?_, r.out, r.nd, r.ap, r.fr, fun b u h => ?_⟩
  · obtain ⟨v, h1, h2⟩ := r.pl j s h
    refine ⟨v, h1, h2.keep (Same.refl _) fun b mb u h => ?_⟩
    rw [upd_ne (fun z => by subst z; exact nf j mb)]; exact h
  · rw [upd_ne (fun z => by subst z; rw [n] at h; cases h)]; exact r.sub _ _ h
section
variable {X : Cx} {kp : List Nat} {a b c ix : Expr} {fa fl : FL} {f fb fc : FD} {ft : FB} {gr g : GF} {bd rest : List Stmt} {pos p apos cpos : Pos}
end
end TL
set_option Elab.async false
set_option linter.all false
set_option maxRecDepth 100000
namespace TL
open PySem PySem.Spec L2
open PyProof.Rows hiding St
abbrev GX := Ev → Option (Option Fl)
def xSeq (g : GF) (h : GX) : GX := fun e => (g e).bind fun r => match r with
  | .nx e' => h e'
  | .rt d e' => some (some (.rt d e'))
  | .rf d e' => some (some (.rf d e'))
  | .ro d e' => some (some (.ro d e'))
  | .bk e' => some (some (.bk e'))
  | .ct e' => some (some (.ct e'))
def xIfR (c : FB) (h : GX) : GX := fun e => (c e).bind fun k => if k then some none else h e
def xEnd (g : GF) : GX := fun e => (g e).map some
def BJX (X : Cx) (W : WX) (C : Addr) (kp : List Nat) (bd : List Stmt) (G : GX) : Prop := ∀ (env : Ev) (σ : L2.St) (fp : Fp) (Hs H : Hp) (r : Option Fl) (D' : Ends), Rl X.K Hs H env σ fp → G env = some r →
  (match r with | some fl => FlK X.K kp D' σ fp Hs H fl | none => ∀ σ' fp' Hs' H', Adv fp Hs H fp' Hs' H' → Same Hs' H' → W (.ref C) none σ' H') → WB X bd D' σ H
section
variable {X : Cx} {W : WX} {C : Addr} {kp : List Nat} {st : Stmt} {rest bd : List Stmt} {c : Expr} {g : GF} {h : GX} {fb : FB} {pos pos' pos2 p p2 : Pos} {x m : Str} {j : Nat}
theorem bjx_cons (h1 : SJ X kp st g) (h2 : BJX X W C kp rest h) : BJX X W C kp (st :: rest) (xSeq g h) := by
  intro env σ fp Hs H r D' rl e q
  obtain ⟨z, e1, e⟩ := bind2 (γ := Unit) e
  refine wb_of (pss_cons ps_ws pss_wb) (h1 env σ fp Hs H z _ rl e1 ?_)
  cases z with
  | nx e' =>
    refine fun σ' fp' Hs' H' r' a' k' => h2 e' σ' fp' Hs' H' r D' r' e ?_
    cases r with
    | some fl => exact FlK.go fl q a' k'
    | none => exact fun σ2 fp2 Hs2 H2 a2 s2 => q σ2 fp2 Hs2 H2 (a'.trans a2) s2
  | rt d e' => injection e with e; subst e; exact q
  | rf d e' => injection e with e; subst e; exact q
  | ro d e' => injection e with e; subst e; exact q
  | bk e' => injection e with e; subst e; exact q
  | ct e' => injection e with e; subst e; exact q
theorem bjx_end (h1 : BJ X kp bd g) : BJX X W C kp bd (xEnd g) := by
  intro env σ fp Hs H r D' rl e q
  obtain ⟨z, e1, e⟩ := prod2 (β := Unit) e
  subst e
  exact h1 env σ fp Hs H z D' rl e1 q
theorem bjx_raise {exn : Expr} (hc : X.calm = true) (tk : Takes X W) (hp : PMk X exn (fun _ H Q => Q (.ref C) none H)) (ht : PTV X c fb) (h2 : BJX X W C kp rest h) :
    BJX X W C kp (.If c [.Raise (some exn) none pos'] [] pos2 :: rest) (xIfR fb h) := by
  intro env σ fp Hs H r D' rl e q
  obtain ⟨k, e1, e⟩ := bind2 (γ := Unit) e
  refine wb_of (pss_cons ps_ws pss_wb) (ws_of (ps_if pt_wt pss_wb pss_wb) (ht env σ fp Hs H k _ rl e1 fun Hs1 H1 g1 => ?_))
  cases k with
  | true =>
    rw [if_pos rfl] at e
    injection e with e; subst e
    exact iteT (wb_of (pss_one (ps_raise hc tk hp)) (q σ fp Hs1 H1 g1.adv g1.sub))
  | false =>
    rw [if_neg (by simp)] at e
    refine iteF (wb_of pss_nil (h2 env σ fp Hs1 H1 r D' (g1.rl rl) e ?_))
    cases r with
    | some fl => exact FlK.go fl q g1.adv Kp.refl
    | none => exact fun σ2 fp2 Hs2 H2 a2 s2 => q σ2 fp2 Hs2 H2 (g1.adv.trans a2) s2
end
def outFX : Option Fl → Option (Option (List D))
  | none => some none
  | some (.rf d _) => some (some d)
  | _ => none
def mFX (G : GX) (n : Nat) (ds : List D) : Option (Option (List D)) := (G (ent n ds)).bind outFX
def spFX (K : PySem.W.Frag) (n : Nat) (C : Addr) (m : List D → Option (Option (List D))) : Sp := fun vs H Q E => vs.length = n ∧ ∃ Hs ds d, Same Hs H ∧ RpL K Hs vs ds ∧ m ds = some d ∧
  (match d with | some xs => PoF K Hs H xs Q | none => ∀ Hs' H', Grow Hs H Hs' H' → E (.ref C) none H')
section
variable {P : Program} {w : World} {K : PySem.W.Frag} {mg : Str → Option Value} {base : Heap}
theorem okFX {x q : Str} {st : Stmt} {f C : Addr} {fd : FuncData} {N ps : List Str} {k : Nat} {G : GX} (F : Fun K x q st f fd) (S : FnScope N ps (defScope st))
    (hb : ∀ (cdv : Value) (A : Around) (o : List Env) (s : Shared) (H : Hp) (E : XK), A.guards = some [] → Room k (A.deeper (envOfC q (defScope st) s.heap.objs.size f cdv)) → BJX (cxOf (L2.CX P w) P w K mg base N q (defScope st) f cdv A o s H E) (fun cls d _ H => E cls d H) C [] (defBody st) G) :
    FnG P w K mg base (L2.CX P w) (k + 1) f fd ps (spFX K ps.length C (mFX G N.length)) := by
  obtain ⟨oc, od, kV, doc, pm, an, cdv, ct, osl, rfl, lk, hcd⟩ := F.ex
  refine fnG_of lk hcd S (fun vs H Q E h => h.1) fun A o s H vs Q E g hr h => ?_
  obtain ⟨hl, Hs, ds, d, sm, r, e, q⟩ := h
  have hN : ps.length ≤ N.length := by have := congrArg List.length S.pre; rw [List.length_take] at this; omega
  refine ⟨_, pss_wb, ?_⟩
  obtain ⟨z, e1, e⟩ := bind2 (γ := Unit) e
  refine hb cdv A o s H E g hr _ _ fp0 Hs H z _ (rl_ent sm r (by rw [hl]; exact hN)) e1 ?_
  cases z with
  | none =>
    injection e with e; subst e
    exact fun σ' fp' Hs' H' a' s' => q Hs' H' (grow_of a' s')
  | some fl =>
    cases fl with
    | nx e' => cases e
    | rt d' e' => cases e
    | ro d' e' => cases e
    | bk e' => cases e
    | ct e' => cases e
    | rf d' e' =>
      injection e with e; subst e
      intro p vs σ' fp' Hs' H' rl' a' _ h1 h2 h3 h4 h5
      have n : H p = none := h5.elim (fun ⟨_, m⟩ => (List.not_mem_nil m).elim) id
      exact q Hs' H' p vs (grow_of a' rl'.sub) n h3 h1 h2
end
section
variable {X : Cx} {CX : CXT} {k : Nat} {f C : Addr} {fd : FuncData} {ps : List Str} {sp : Sp} {dvs : List V} {ds : List Value} {x y : Str} {p pos : Pos} {e : Expr} {es : List Expr} {t : TA} {n : Nat} {m : List D → Option (Option (List D))} {fl : FL} {kp : List Nat}
theorem runGX {E : XK} {pins : List (Addr × Obj)} {σ : L2.St} {H : Hp} {s : Shared} {Q : VK} {us : List Value} {vs : List V} (F : FnG X.prog X.w X.K X.mg X.base CX k f fd ps sp) (g : X.A.guards = some []) (hr : Room k X.A) (hb : Binds X.K fd ps ds) (hd : Vals dvs ds) (hx : PassesAt CX X σ E)
    (I : Inv X pins σ H s) (r : Vals vs us) (h : sp (vs ++ dvs) H Q E) : wpAny (model X.prog X.w) X.A (call (.ref f) us) (EP X pins σ Q) X.xe s := by
  have r2 : Vals (vs ++ dvs) (us ++ ds) := r.append hd
  have hl : (us ++ ds).length = ps.length := r2.length.symm.trans (F.len _ _ _ _ h)
  have run := F.go X.A X.stack s H ⟨us, []⟩ (us ++ ds) (vs ++ dvs) Q E g hr I.env0 (hb s us I.kIn hl) r2 h
  refine wpAny_call (codeAny_mono run ?_)
  intro res s' hq
  cases res with
  | error er => exact hx pins H s er s' I hq
  | ok fl =>
    cases fl with
    | ret u => exact I.after hq
    | next => exact hq.elim
    | brk => exact hq.elim
    | cont => exact hq.elim
theorem pe_callGX {E : L2.St → XK} (F : FnG X.prog X.w X.K X.mg X.base CX k f fd ps sp) (g : X.A.guards = some []) (hr : Room k X.A) (hg : Gl X x) (hm : X.mg x = some (.ref f)) (hk : PySem.W.keepIn X.K (.ref f) = true) (hb : Binds X.K fd ps ds) (hd : Vals dvs ds) (hx : ∀ σ, PassesAt CX X σ (E σ))
    (ha : PA X (e :: es) t) (hdb : (x == ("__debug__" : Str)) = false := by decide) (he : starEach (e :: es) X.env = (false, eval e X.env) :: starEach es X.env := by rfl) (hpl : (backTo pos (starEach es X.env)).any (·.1) = false := by rfl) :
    PE X (.Call (.Name x p) (e :: es) [] pos) (fun σ H Q => t σ H fun vs H1 => sp (vs ++ dvs) H1 Q (E σ)) := by
  constructor
  intro pins s σ H Q I h
  refine wpAny_Call_Name_kw (ld_glob I hg hm (PySem.W.callWith_K (h₀ := X.base) I.ok.mod.kin hk ?_ he hpl) hdb)
  refine thn (ha.run pos pins s σ H _ I h) ?_
  rintro us s1 ⟨vs, H1, I1, r, q⟩
  exact ⟨I1.kIn, runGX F g hr hb hd (hx σ) I1 r q⟩

def gTryF (m : List D → Option (Option (List D))) (n : Nat) (fl : FL) : GF := fun e => (fl e).bind fun ds => if ds.length = n then (m ds).map fun r => match r with | some xs => .rf xs e | none => .rt .none e else none
theorem sj_tryF {j : Nat} {cp np rp rp2 hp tp : Pos} {hdl : Str} (F : FnG X.prog X.w X.K X.mg X.base (L2.CX X.prog X.w) k f fd ps (spFX X.K n C m)) (g : X.A.guards = some []) (hr : Room k X.A) (hg : Gl X x) (hm : X.mg x = some (.ref f)) (hk : PySem.W.keepIn X.K (.ref f) = true) (hb : Binds X.K fd ps [])
    (hc : Names X hdl (.ref C)) (te : PySem.W.exmOne X.K (.ref C) (.ref C) = some true)
    (ha : ∀ pn xe, PAV (X.tr pn xe) (e :: es) fl) (hst : X.stack = X.env :: X.outer := by rfl) (hfr : X.env.frame = some X.env.locals := by rfl)
    (hdb : (x == ("__debug__" : Str)) = false := by decide) (he : starEach (e :: es) X.env = (false, eval e X.env) :: starEach es X.env := by rfl) (hpl : (backTo pos (starEach es X.env)).any (·.1) = false := by rfl) :
    SJ X kp (.Try [.Return (some (.Call (.Name x p) (e :: es) [] pos)) rp] [.ExceptHandler (some (.Name hdl np)) none [.Return (some (.Constant .none j cp)) rp2] hp] [] [] tp) (gTryF m n fl) := by
  intro env σ fp Hs H r D' rl e0 q
  obtain ⟨ds, e1, e0⟩ := bind2 (γ := Unit) e0
  split at e0 <;> try contradiction
  rename_i hl
  obtain ⟨d, e2, e0⟩ := prod2 (β := Unit) e0
  subst e0
  have tk0 : Takes X (fun _ _ _ _ => False) := fun u s' ⟨_, _, _, _, _, _, _, _, _, _, _, _, _, _, _, _, hW⟩ => hW.elim
  refine ws_of (ps_try_only (tb := fun W D σ H => ∀ (pn : List (Addr × Obj)) (xe : Value → Shared → Prop), Takes (X.tr pn xe) W → WB (X.tr pn xe) [.Return (some (.Call (.Name x p) (e :: es) [] pos)) rp] D σ H)
    (ts := fun a cls d D σ H => D.rt .non H) (Wout := fun _ _ _ _ => False) hst hfr hc tk0 (fun W pn xe tk _ => ?_) (fun a oe cls dd pn hz hf => pss_one (ps_ret pe_non))) ?_
  · exact ⟨fun pins s σ H D I h => pss_wb.run pins s σ H D I (h pn xe tk)⟩
  · intro pn xe tk
    refine wb_of (pss_one (ps_ret (pe_callGX (X := X.tr pn xe) (E := L2.WE _) F g hr hg hm hk hb .nil (fun σ => passAt tk σ) pa_wa hdb he hpl))) ?_
    refine ha pn xe env σ fp Hs H ds _ rl e1 fun Hs1 H1 vs g1 r1 => ?_
    show spFX X.K n C m (vs ++ []) H1 _ _
    rw [List.append_nil]
    refine ⟨by rw [r1.len]; exact hl, Hs1, ds, d, g1.sub, r1, e2, ?_⟩
    cases d with
    | some xs =>
      intro Hs2 H2 p1 ws g2 n1 n2 h1 k1
      have g12 := g1.trans g2
      exact q p1 ws σ fp Hs2 H2 (g12.rl rl) g12.adv Kp.refl h1 k1 n2 (fun j _ => rl.free (g1.keep.free n1) j) (.inr (g1.keep.free n1))
    | none =>
      intro Hs2 H2 g2
      have g12 := g1.trans g2
      exact ⟨true, te, fun _ a _ => q .non σ fp Hs2 H2 (g12.rl rl) g12.adv Kp.refl .n, fun z => Bool.noConfusion z⟩
end
end TL
set_option Elab.async false
set_option linter.all false
set_option maxRecDepth 100000
namespace TL
open PySem PySem.Spec L2
open PyProof.Rows hiding St
def scntD : D → D → Option D
  | .str x, .str y => some (.int (PySem.Txt.count x y))
  | _, _ => none
section
variable {X : Cx} {a b : Expr} {f g : FD} {pos apos cpos : Pos}
theorem pv_scount (ha : PV X a f) (hb : PV X b g) (hbase : attributeBase a "count" X.env (eval a X.env) = eval a X.env := by rfl)
    (hfew : ((backTo cpos (starEach [b] X.env)).all (fun x => !x.1) && (backToKw cpos (keywordEach [] X.env)).all (fun x => x.1.isSome) && decide (([b] : List Expr).length + ([] : List Keyword).length + (if ([] : List Keyword).isEmpty then 0 else 1) < 30)) = true := by rfl)
    (hline : (apos.endLine == cpos.line) = true := by rfl) (hs : starEach [b] X.env = (false, eval b X.env) :: starEach [] X.env := by rfl) (hpl : (backTo cpos (starEach [] X.env)).any (·.1) = false := by rfl) :
    PV X (.Call (.Attribute a "count" apos) [b] [] cpos) (f2 scntD f g) := by
  intro env σ fp Hs H d Q rl e q
  obtain ⟨x, e1, e⟩ := bind2 (γ := Unit) e
  obtain ⟨y, e2, e⟩ := bind2 (γ := Unit) e
  obtain ⟨s, t, rfl, rfl⟩ : ∃ s t, x = .str s ∧ y = .str t := by cases x <;> cases y <;> first | exact ⟨_, _, rfl, rfl⟩ | cases e
  injection e with e; subst e
  refine we_of (pe_bm PySem.F.plainAttrs_str PySem.F.slot_str_count PySem.F.type_str_count mt_count pe_we (pa_cons pe_we pa_nil hs) hbase hfew hline hs hpl) (ha env σ fp Hs H _ _ rl e1 fun Hs1 H1 v g1 r1 => ?_)
  cases r1
  refine ⟨?_, hb env σ fp Hs1 H1 _ _ (g1.rl rl) e2 fun Hs2 H2 u g2 r2 => ?_⟩
  · unfold tyV
    simp
  · cases r2
    exact ⟨s, t, rfl, rfl, (q.go (g1.trans g2)).at (g1.trans g2).sub (.i _)⟩
end
end TL
set_option Elab.async false
set_option linter.all false
set_option maxRecDepth 100000
namespace TL
open PySem PySem.Spec L2
open PyProof.Rows hiding St
structure ErrK (K : PySem.W.Frag) (mg : Str → Option Value) (x : Str) (C : Addr) : Prop where
  mg : mg x = some (.ref C)
  ex : PySem.W.excIn K C [.type "ValueError", .type "Exception", .type "BaseException", .type "object"] "ValueError.__new__" = true
  kp : PySem.W.keepIn K (.ref C) = true
  sub : PySem.W.subIn K (.ref C) (.type "BaseException") = some true
  ty : PySem.W.typeIn K (.ref C) = some (.type "type")
  em : PySem.W.exmOne K (.ref C) (.ref C) = some true
section
variable {X : Cx} {C : Addr} {x m : Str} {j : Nat} {p p2 pos : Pos}
theorem ErrK.pmk (E : ErrK X.K X.mg x C) (hg : Gl X x) (hdb : (x == ("__debug__" : Str)) = false := by decide) : PMk X (.Call (.Name x p) [.Constant (.str m) j p2] [] pos) (fun _ H Q => Q (.ref C) none H) :=
  pmk_own PySem.F.excBase_ValueError E.ex E.mg E.kp (raises_own E.sub E.ty) hg hdb
theorem ErrK.names (E : ErrK X.K X.mg x C) (hg : Gl X x) (hdb : (x == ("__debug__" : Str)) = false := by decide) : Names X x (.ref C) := ⟨hg, hdb, .inl E.mg⟩
end
structure CalX (P : Program) (w : World) (K : PySem.W.Frag) (mg : Str → Option Value) (base : Heap) (k : Nat) (x : Str) (ps : List Str) (sp : Sp) : Prop where
  ex : ∃ (f : Addr) (fd : FuncData), FnG P w K mg base (L2.CX P w) k f fd ps sp ∧ mg x = some (.ref f) ∧ PySem.W.keepIn K (.ref f) = true ∧ Binds K fd ps []
end TL
set_option Elab.async false
set_option linter.all false
set_option maxRecDepth 100000
namespace TL
open PySem PySem.Spec L2
open PyProof.Rows hiding St
end TL
set_option Elab.async false
set_option linter.all false
set_option maxRecDepth 100000
set_option maxHeartbeats 4000000
namespace K14
open PySem PySem.Spec L2 TL
open PyProof.Rows hiding St
def topS (i : Nat) : Stmt := PySem.Challenge.pw_accordions_k14_whole_strings_of_plans_an.main.body.getD i (.Pass ⟨0, 0, 0, 0⟩)
def d_KINDS : D := .tuple [.str "one", .str "tab", .str "step"]
def d_MOST_SECTIONS : D := .int 40
structure Bn (mg : Str → Option Value) : Prop where
  b_all : mg "all" = none
  b_bool : mg "bool" = none
  b_enumerate : mg "enumerate" = none
  b_int : mg "int" = none
  b_isinstance : mg "isinstance" = none
  b_len : mg "len" = none
  b_list : mg "list" = none
  b_max : mg "max" = none
  b_min : mg "min" = none
  b_range : mg "range" = none
  b_str : mg "str" = none
  b_tuple : mg "tuple" = none
  b_type : mg "type" = none
  b_zip : mg "zip" = none
structure Cn (K : PySem.W.Frag) (mg : Str → Option Value) : Prop where
  c_KINDS : ∃ u v, mg "KINDS" = some u ∧ RelV v u ∧ ∀ Hs, Rp K Hs v d_KINDS
  c_MOST_SECTIONS : ∃ u v, mg "MOST_SECTIONS" = some u ∧ RelV v u ∧ ∀ Hs, Rp K Hs v d_MOST_SECTIONS
abbrev s_depths_fit : Stmt := topS 14
abbrev N_depths_fit : List Str := ["depths", "before", "depth"]
def E_depths_fit_1 : FD := (fCh leD leD (fC (.int 1)) (fVar 2) (f2 addD (fVar 1) (fC (.int 1))))
def G_depths_fit : GF := (gSeq (gIf (fB (f2 neD (f2 ixD (fVar 0) (fC (.int 0))) (fC (.int 0)))) (gRet (fC (.bool false))) gNx)
    (gRet (fCall allD (fCons (fTold (fLc [1, 2] (iZp (fCons (fVar 0) (fCons (fTold (fSl (fVar 0) (pSome (fC (.int 1))) pNo)) fNil))) (aTup 2 (aCons (aNm 1) (aCons (aNm 2) aNil))) bYes E_depths_fit_1)) fNil))))
def M_depths_fit : List D → Option D := mV G_depths_fit 3
abbrev s_is_whole_number : Stmt := topS 7
abbrev N_is_whole_number : List Str := ["value"]
def G_is_whole_number : GF := (gRet (fAnd (fMapD (fun d => .bool (isT "int" d)) (fVar 0)) (fNot (fMapD (fun d => .bool (isT "bool" d)) (fVar 0)))))
def M_is_whole_number : List D → Option D := mV G_is_whole_number 1
abbrev s_is_kind_word : Stmt := topS 12
abbrev N_is_kind_word : List Str := ["value"]
def G_is_kind_word : GF := (gRet (fAnd (fMapD (fun d => .bool (isT "str" d)) (fVar 0)) (f2 inD (fVar 0) (fC d_KINDS))))
def M_is_kind_word : List D → Option D := mV G_is_kind_word 1
abbrev s_is_depth_and_kind : Stmt := topS 13
abbrev N_is_depth_and_kind : List Str := ["value", "depth", "kind"]
def G_is_depth_and_kind : GF := (gSeq (gIf (bOr (fB (fMapD (tyNe "tuple") (fVar 0))) (fB (f2 neD (fCall lenD (fCons (fVar 0) fNil)) (fC (.int 2))))) (gRet (fC (.bool false))) gNx)
    (gSeq (gAsg (aTup 2 (aCons (aNm 1) (aCons (aNm 2) aNil))) (fVar 0))
    (gRet (fAnd (fCall (fun ds => if ds.length = 1 then M_is_whole_number ds else none) (fCons (fVar 1) fNil)) (fCall (fun ds => if ds.length = 1 then M_is_kind_word ds else none) (fCons (fVar 2) fNil))))))
def M_is_depth_and_kind : List D → Option D := mV G_is_depth_and_kind 3
abbrev s_is_plan : Stmt := topS 11
abbrev N_is_plan : List Str := ["value", "row"]
def E_is_plan_1 : FD := (fCall (fun ds => if ds.length = 1 then M_is_depth_and_kind ds else none) (fCons (fVar 1) fNil))
def E_is_plan_2 : FD := (f2 ixD (fVar 1) (fC (.int 0)))
def G_is_plan : GF := (gSeq (gIf (bOr (fB (fMapD (tyNe "list") (fVar 0))) (bNot (fB (fCh leD leD (fC (.int 1)) (fCall lenD (fCons (fVar 0) fNil)) (fC d_MOST_SECTIONS))))) (gRet (fC (.bool false))) gNx)
    (gSeq (gIf (bNot (fB (fCall allD (fCons (fTold (fLc [1] (iSeq (fVar 0)) (aNm 1) bYes E_is_plan_1)) fNil)))) (gRet (fC (.bool false))) gNx)
    (gRet (fCall (fun ds => if ds.length = 1 then M_depths_fit ds else none) (fCons (fTold (fLc [1] (iSeq (fVar 0)) (aNm 1) bYes E_is_plan_2)) fNil)))))
def M_is_plan : List D → Option D := mV G_is_plan 2
abbrev s_check_plan : Stmt := topS 15
abbrev N_check_plan : List Str := ["plan"]
def G_check_plan : GF := (gIf (bNot (fB (fCall (fun ds => if ds.length = 1 then M_is_plan ds else none) (fCons (fVar 0) fNil)))) gNo gNx)
def M_check_plan : List D → Option D := mV G_check_plan 1
abbrev s_written_plan : Stmt := topS 33
abbrev N_written_plan : List Str := ["plan", "depths", "parts", "following", "depth", "kind", "_"]
def E_written_plan_1 : FD := (fVar 4)
def B_written_plan_1 : GF := (gSeq (gApp 2 (fVar 5))
    (gApp 2 (fIf (fB (f2 gtD (fVar 3) (fVar 4))) (fC (.str "(")) (f2 addD (f2 mulSD (fC (.str ")")) (f2 subD (fVar 4) (fVar 3))) (fC (.str " "))))))
def L_written_plan_1 : GF := (gFor (iZp (fCons (fVar 0) (fCons (f2 addD (fTold (fSlO 1 (pSome (fC (.int 1))) pNo)) (fTold (fLst (fCons (fC (.int 0)) fNil)))) fNil))) (aTup 2 (aCons (aTup 2 (aCons (aNm 4) (aCons (aNm 5) aNil))) (aCons (aNm 3) aNil))) B_written_plan_1)
def G_written_plan : GF := (gSeq (gOwn 1 (fLc [4, 6] (iSeq (fVar 0)) (aTup 2 (aCons (aNm 4) (aCons (aNm 6) aNil))) bYes E_written_plan_1))
    (gSeq (gOwn 2 (fLst fNil))
    (gSeq L_written_plan_1
    (gRet (f1 rstripD (fFrz 2 (f2 joinD (fC (.str "")) (fVar 2))))))))
def M_written_plan : List D → Option D := mV G_written_plan 7
abbrev s_format_plan : Stmt := topS 37
abbrev N_format_plan : List Str := ["plan"]
def G_format_plan : GF := (gSeq (gDropE (pur (fCall (fun ds => if ds.length = 1 then M_check_plan ds else none) (fCons (fVar 0) fNil))))
    (gRet (fCall (fun ds => if ds.length = 1 then M_written_plan ds else none) (fCons (fVar 0) fNil))))
def M_format_plan : List D → Option D := mV G_format_plan 1
abbrev s_check_string : Stmt := topS 32
abbrev N_check_string : List Str := ["text"]
def G_check_string : GF := (gIf (bNot (fB (fMapD (fun d => .bool (isT "str" d)) (fVar 0)))) gNo gNx)
def M_check_string : List D → Option D := mV G_check_string 1
abbrev s_setting_among : Stmt := topS 36
abbrev N_setting_among : List Str := ["words", "section", "choices", "found", "setting"]
def E_setting_among_1 : FD := (fVar 4)
def G_setting_among : GF := (gSeq (gOwn 3 (fLc [4] (iSeq (fVar 2)) (aNm 4) (fB (f2 inD (fJoined (jFmt (fVar 1) (jVal (fC (.str ":")) (jFmt (fVar 4) jNil)))) (fVar 0))) E_setting_among_1))
    (gRet (fFrz 3 (f2 ixD (f2 addD (fVar 3) (fVar 2)) (fC (.int 0))))))
def M_setting_among : List D → Option D := mV G_setting_among 5
abbrev s_all_parents : Stmt := topS 19
abbrev N_all_parents : List Str := ["plan", "last_at", "parents", "section", "depth", "_"]
def B_all_parents_1 : GF := (gSeq (gDPut 1 (fVar 3) (fVar 4))
    (gApp 2 (fGetO 1 (f2 subD (fVar 4) (fC (.int 1))))))
def L_all_parents_1 : GF := (gFor (iEn (fCons (fVar 0) fNil)) (aTup 2 (aCons (aNm 3) (aCons (aTup 2 (aCons (aNm 4) (aCons (aNm 5) aNil))) aNil))) B_all_parents_1)
def G_all_parents : GF := (gSeq (gDict0 1)
    (gSeq (gOwn 2 (fLst fNil))
    (gSeq L_all_parents_1
    (gRetO 2))))
def M_all_parents : List D → Option (List D) := mF G_all_parents 6
abbrev s_all_groups : Stmt := topS 20
abbrev N_all_groups : List Str := ["plan", "groups", "section", "parent", "row"]
def B_all_groups_1 : GF := (gIf (fB (fMapD isNN (fVar 3))) (gApp2 1 (fVar 3) (fVar 2)) gNx)
def L_all_groups_1 : GF := (gFor (iEn (fCons (fTold (fCallF (fun ds => if ds.length = 1 then M_all_parents ds else none) (fCons (fVar 0) fNil))) fNil)) (aTup 2 (aCons (aNm 2) (aCons (aNm 3) aNil))) B_all_groups_1)
def G_all_groups : GF := (gSeq (gOwnO 1 (fLcO [4] (iSeq (fVar 0)) (aNm 4)))
    (gSeq L_all_groups_1
    (gFrzO 1 (gRet (fVar 1)))))
def M_all_groups : List D → Option D := mV G_all_groups 5
abbrev s_written_state : Stmt := topS 34
abbrev N_written_state : List Str := ["plan", "state", "section", "group"]
def E_written_state_1 : FD := (fJoined (jFmt (fVar 2) (jVal (fC (.str ":")) (jFmt (f2 ixD (fVar 1) (fVar 2)) jNil))))
def G_written_state : GF := (gRet (f2 joinD (fC (.str " ")) (fTold (fLc [2, 3] (iEn (fCons (fCall (fun ds => if ds.length = 1 then M_all_groups ds else none) (fCons (fVar 0) fNil)) fNil)) (aTup 2 (aCons (aNm 2) (aCons (aNm 3) aNil))) (fT (fVar 3)) E_written_state_1))))
def M_written_state : List D → Option D := mV G_written_state 4
abbrev s_group_choices : Stmt := topS 26
abbrev N_group_choices : List Str := ["kind", "group"]
def G_group_choices : GF := (gSeq (gIf (bOr (fB (f2 eqD (fVar 0) (fC (.str "one")))) (bNot (fT (fVar 1)))) (gRet (fTold (fLst (fCons (fC (.int 0)) (fStar (fVar 1) fNil))))) gNx)
    (gRet (fVar 1)))
def M_group_choices : List D → Option D := mV G_group_choices 2
abbrev s_all_choices : Stmt := topS 27
abbrev N_all_choices : List Str := ["plan", "row", "group"]
def E_all_choices_1 : FD := (fCall (fun ds => if ds.length = 2 then M_group_choices ds else none) (fCons (f2 ixD (fVar 1) (fC (.int 1))) (fCons (fVar 2) fNil)))
def G_all_choices : GF := (gRetF (fLc [1, 2] (iZp (fCons (fVar 0) (fCons (fCall (fun ds => if ds.length = 1 then M_all_groups ds else none) (fCons (fVar 0) fNil)) fNil))) (aTup 2 (aCons (aNm 1) (aCons (aNm 2) aNil))) bYes E_all_choices_1))
def M_all_choices : List D → Option (List D) := mF G_all_choices 3
abbrev s_parse_state : Stmt := topS 40
abbrev N_parse_state : List Str := ["plan", "text", "words", "state", "section", "choices"]
def E_parse_state_1 : FD := (fCall (fun ds => if ds.length = 3 then M_setting_among ds else none) (fCons (fVar 2) (fCons (fVar 4) (fCons (fVar 5) fNil))))
def G_parse_state : GX := (xSeq (gDropE (pur (fCall (fun ds => if ds.length = 1 then M_check_plan ds else none) (fCons (fVar 0) fNil))))
    (xSeq (gDropE (pur (fCall (fun ds => if ds.length = 1 then M_check_string ds else none) (fCons (fVar 1) fNil))))
    (xSeq (gSet 2 (fTold (fWords (fVar 1))))
    (xSeq (gOwn 3 (fLc [4, 5] (iEn (fCons (fTold (fCallF (fun ds => if ds.length = 1 then M_all_choices ds else none) (fCons (fVar 0) fNil))) fNil)) (aTup 2 (aCons (aNm 4) (aCons (aNm 5) aNil))) bYes E_parse_state_1))
    (xIfR (fB (f2 neD (fFrz 3 (fCall (fun ds => if ds.length = 2 then M_written_state ds else none) (fCons (fVar 0) (fCons (fVar 3) fNil)))) (fVar 1)))
    (xEnd (gRetO 3)))))))
def M_parse_state : List D → Option (Option (List D)) := mFX G_parse_state 6
abbrev s_law_read : Stmt := topS 48
abbrev N_law_read : List Str := ["page", "written"]
def G_law_read : GF := (gTryF M_parse_state 2 (fCons (fVar 0) (fCons (fVar 1) fNil)))
def M_law_read : List D → Option D := mV G_law_read 2
abbrev s_law_draw : Stmt := topS 43
abbrev N_law_draw : List Str := ["source", "count", "mixed", "digit"]
def G_law_draw : GF := (gSeq (gIf (fB (f2 gtD (fIxO 0 (fC (.int 0))) (fC (.int 0)))) (gSeq (gSet 3 (f2 modD (fIxO 0 (fC (.int 0))) (fVar 1)))
    (gSeq (gPut 0 (f2 divD (fIxO 0 (fC (.int 0))) (fVar 1)) (fC (.int 0)))
    (gRet (fVar 3)))) gNx)
    (gSeq (gPut 0 (f2 addD (fIxO 0 (fC (.int 2))) (fC (.int 1))) (fC (.int 2)))
    (gSeq (gSet 2 (f2 modD (f2 powD (f2 addD (fIxO 0 (fC (.int 1))) (f2 mulD (fC (.int 910003)) (fIxO 0 (fC (.int 2))))) (fC (.int 3))) (f2 addD (f2 powD (fC (.int 10)) (fC (.int 38))) (fC (.int 133)))))
    (gSeq (gSet 2 (f2 modD (f2 powD (f2 addD (fVar 2) (f2 mulD (fC (.int 73)) (fIxO 0 (fC (.int 2))))) (fC (.int 3))) (f2 addD (f2 powD (fC (.int 10)) (fC (.int 39))) (fC (.int 3)))))
    (gRet (f2 modD (f2 divD (fVar 2) (fC (.int 65617))) (fVar 1)))))))
def M_law_draw : Ev → Option (D × Ev) := mE G_law_draw 4 [0]
abbrev s_law_page : Stmt := topS 44
abbrev N_law_page : List Str := ["source", "most", "many", "step", "style", "found", "deep", "some"]
def B_law_page_1 : GF := (gSeq (gSet 6 (f2 ixD (fIxO 5 (f1 negD (fC (.int 1)))) (fC (.int 0))))
    (gSeq (gSetE 7 (eTold (eLst (eCons (pur (f2 addD (fVar 6) (fC (.int 1)))) (eCons (pur (fC (.int 1))) (eCons (e2 addD (pur (fC (.int 1))) (eCallG M_law_draw 2 (agSlot 0 (agVal (pur (f2 addD (fVar 6) (fC (.int 1)))) agNil)))) (eCons (eCall maxD (eCons (pur (fC (.int 1))) (eCons (e2 subD (pur (f2 addD (fVar 6) (fC (.int 1)))) (eCallG M_law_draw 2 (agSlot 0 (agVal (pur (fC (.int 3))) agNil)))) eNil))) (eCons (pur (f2 addD (fC (.int 1)) (f2 modD (fVar 3) (fC (.int 2))))) eNil))))))))
    (gAppE 5 (eTup (eCons (pur (f2 ixD (fVar 7) (fVar 4))) (eCons (e2 ixD (pur (fTold (fLst (fCons (fC (.str "one")) (fCons (fC (.str "tab")) (fCons (fC (.str "step")) fNil)))))) (eCallG M_law_draw 2 (agSlot 0 (agVal (pur (fC (.int 3))) agNil)))) eNil))))))
def L_law_page_1 : GF := (gFor (iRg1 (fCons (f2 subD (fVar 2) (fC (.int 1))) fNil)) (aNm 3) B_law_page_1)
def G_law_page : GF := (gSeq (gSetE 2 (e2 ixD (eTold (eLst (eCons (e2 addD (pur (fC (.int 1))) (eCallG M_law_draw 2 (agSlot 0 (agVal (pur (fVar 1)) agNil)))) (eCons (e2 addD (pur (fC (.int 1))) (eCallG M_law_draw 2 (agSlot 0 (agVal (pur (fCall minD (fCons (fVar 1) (fCons (fC (.int 9)) fNil)))) agNil)))) (eCons (pur (fVar 1)) eNil))))) (eCallG M_law_draw 2 (agSlot 0 (agVal (pur (fC (.int 3))) agNil)))))
    (gSeq (gPar [4, 5] (vT (eCallG M_law_draw 2 (agSlot 0 (agVal (pur (fC (.int 5))) agNil))) (vF (eLst (eCons (eTup (eCons (pur (fC (.int 0))) (eCons (e2 ixD (pur (fTold (fLst (fCons (fC (.str "one")) (fCons (fC (.str "tab")) (fCons (fC (.str "step")) fNil)))))) (eCallG M_law_draw 2 (agSlot 0 (agVal (pur (fC (.int 3))) agNil)))) eNil))) eNil)) vNil)))
    (gSeq L_law_page_1
    (gRetO 5))))
def M_law_page : Ev → Option (List D × Ev) := mEF G_law_page 8 [0]
abbrev s_law_upper : Stmt := topS 45
abbrev N_law_upper : List Str := ["page", "found", "place", "item", "some", "spot"]
def E_law_upper_1 : FD := (fVar 5)
def B_law_upper_1 : GF := (gSeq (gOwn 4 (fLc [5] (iRg1 (fCons (fVar 2) fNil)) (aNm 5) (fB (f2 eqD (f2 ixD (f2 ixD (fVar 0) (fVar 5)) (fC (.int 0))) (f2 subD (f2 ixD (fVar 3) (fC (.int 0))) (fC (.int 1))))) E_law_upper_1))
    (gApp 1 (fIf (bFrz 4 (fB (f2 neD (fVar 4) (fTold (fLst fNil))))) (fIxO 4 (f1 negD (fC (.int 1)))) (fC .none))))
def L_law_upper_1 : GF := (gFor (iEn (fCons (fVar 0) fNil)) (aTup 2 (aCons (aNm 2) (aCons (aNm 3) aNil))) B_law_upper_1)
def G_law_upper : GF := (gSeq (gOwn 1 (fLst fNil))
    (gSeq L_law_upper_1
    (gRetO 1)))
def M_law_upper : List D → Option (List D) := mF G_law_upper 6
abbrev s_law_lower : Stmt := topS 46
abbrev N_law_lower : List Str := ["page", "upper", "place", "spot"]
def E_law_lower_1 : FD := (fVar 3)
def E_law_lower_2 : FD := (fTold (fLc [3] (iRg1 (fCons (fCall lenD (fCons (fVar 0) fNil)) fNil)) (aNm 3) (fB (f2 eqD (f2 ixD (fVar 1) (fVar 3)) (fVar 2))) E_law_lower_1))
def G_law_lower : GF := (gSeq (gSet 1 (fTold (fCallF (fun ds => if ds.length = 1 then M_law_upper ds else none) (fCons (fVar 0) fNil))))
    (gRetF (fLc [2] (iRg1 (fCons (fCall lenD (fCons (fVar 0) fNil)) fNil)) (aNm 2) bYes E_law_lower_2)))
def M_law_lower : List D → Option (List D) := mF G_law_lower 4
abbrev s_law_kept : Stmt := topS 47
abbrev N_law_kept : List Str := ["source", "page", "found", "item", "group", "some"]
def B_law_kept_1 : GF := (gSeq (gSet 5 (fIf (bAnd (fB (f2 neD (fVar 4) (fTold (fLst fNil)))) (fB (f2 neD (f2 ixD (fVar 3) (fC (.int 1))) (fC (.str "one"))))) (fVar 4) (f2 addD (fTold (fLst (fCons (fC (.int 0)) fNil))) (fVar 4))))
    (gAppE 2 (e2 ixD (pur (fVar 5)) (eCallG M_law_draw 2 (agSlot 0 (agVal (pur (fCall lenD (fCons (fVar 5) fNil))) agNil))))))
def L_law_kept_1 : GF := (gFor (iZp (fCons (fVar 1) (fCons (fTold (fCallF (fun ds => if ds.length = 1 then M_law_lower ds else none) (fCons (fVar 1) fNil))) fNil))) (aTup 2 (aCons (aNm 3) (aCons (aNm 4) aNil))) B_law_kept_1)
def G_law_kept : GF := (gSeq (gOwn 2 (fLst fNil))
    (gSeq L_law_kept_1
    (gRetO 2)))
def M_law_kept : Ev → Option (List D × Ev) := mEF G_law_kept 6 [0]
abbrev s_has_settings : Stmt := topS 28
abbrev N_has_settings : List Str := ["plan", "value", "rows", "setting", "row"]
def E_has_settings_1 : FD := (fAnd (fCall (fun ds => if ds.length = 1 then M_is_whole_number ds else none) (fCons (fVar 3) fNil)) (f2 inD (fVar 3) (fVar 4)))
def G_has_settings : GF := (gSeq (gIf (bOr (fB (fMapD (tyNe "list") (fVar 1))) (fB (f2 neD (fCall lenD (fCons (fVar 1) fNil)) (fCall lenD (fCons (fVar 0) fNil))))) (gRet (fC (.bool false))) gNx)
    (gSeq (gSet 2 (fTold (fCallF (fun ds => if ds.length = 1 then M_all_choices ds else none) (fCons (fVar 0) fNil))))
    (gRet (fCall allD (fCons (fTold (fLc [3, 4] (iZp (fCons (fVar 1) (fCons (fVar 2) fNil))) (aTup 2 (aCons (aNm 3) (aCons (aNm 4) aNil))) bYes E_has_settings_1)) fNil)))))
def M_has_settings : List D → Option D := mV G_has_settings 5
abbrev s_check_state : Stmt := topS 30
abbrev N_check_state : List Str := ["plan", "state"]
def G_check_state : GF := (gIf (bNot (fB (fCall (fun ds => if ds.length = 2 then M_has_settings ds else none) (fCons (fVar 0) (fCons (fVar 1) fNil))))) gNo gNx)
def M_check_state : List D → Option D := mV G_check_state 2
abbrev s_format_state : Stmt := topS 39
abbrev N_format_state : List Str := ["plan", "state"]
def G_format_state : GF := (gSeq (gDropE (pur (fCall (fun ds => if ds.length = 1 then M_check_plan ds else none) (fCons (fVar 0) fNil))))
    (gSeq (gDropE (pur (fCall (fun ds => if ds.length = 2 then M_check_state ds else none) (fCons (fVar 0) (fCons (fVar 1) fNil)))))
    (gRet (fCall (fun ds => if ds.length = 2 then M_written_state ds else none) (fCons (fVar 0) (fCons (fVar 1) fNil))))))
def M_format_state : List D → Option D := mV G_format_state 2
abbrev s_is_section : Stmt := topS 16
abbrev N_is_section : List Str := ["plan", "value"]
def G_is_section : GF := (gRet (fAnd (fCall (fun ds => if ds.length = 1 then M_is_whole_number ds else none) (fCons (fVar 1) fNil)) (fCh leD ltD (fC (.int 0)) (fVar 1) (fCall lenD (fCons (fVar 0) fNil)))))
def M_is_section : List D → Option D := mV G_is_section 2
abbrev s_check_section : Stmt := topS 17
abbrev N_check_section : List Str := ["plan", "section"]
def G_check_section : GF := (gIf (bNot (fB (fCall (fun ds => if ds.length = 2 then M_is_section ds else none) (fCons (fVar 0) (fCons (fVar 1) fNil))))) gNo gNx)
def M_check_section : List D → Option D := mV G_check_section 2
abbrev s_check_below_page : Stmt := topS 18
abbrev N_check_below_page : List Str := ["plan", "section"]
def G_check_below_page : GF := (gSeq (gDropE (pur (fCall (fun ds => if ds.length = 2 then M_check_section ds else none) (fCons (fVar 0) (fCons (fVar 1) fNil)))))
    (gIf (fB (f2 eqD (fVar 1) (fC (.int 0)))) gNo gNx))
def M_check_below_page : List D → Option D := mV G_check_below_page 2
abbrev s_end_of : Stmt := topS 21
abbrev N_end_of : List Str := ["plan", "section", "end"]
def B_end_of_1 : GF := (gAug 2 (· + ·) (pur (fC (.int 1))))
def L_end_of_1 : GF := (gWh (fun _ => 1000) (bAnd (fB (f2 ltD (fVar 2) (fCall lenD (fCons (fVar 0) fNil)))) (fB (f2 gtD (f2 ixD (f2 ixD (fVar 0) (fVar 2)) (fC (.int 0))) (f2 ixD (f2 ixD (fVar 0) (fVar 1)) (fC (.int 0)))))) B_end_of_1)
def G_end_of : GF := (gSeq (gSet 2 (f2 addD (fVar 1) (fC (.int 1))))
    (gSeq L_end_of_1
    (gRet (fVar 2))))
def M_end_of : List D → Option D := mV G_end_of 3
abbrev s_plan_without : Stmt := topS 24
abbrev N_plan_without : List Str := ["plan", "section"]
def G_plan_without : GF := (gSeq (gDropE (pur (fCall (fun ds => if ds.length = 1 then M_check_plan ds else none) (fCons (fVar 0) fNil))))
    (gSeq (gDropE (pur (fCall (fun ds => if ds.length = 2 then M_check_below_page ds else none) (fCons (fVar 0) (fCons (fVar 1) fNil)))))
    (gRetF (f2F addF (fTold (fSl (fVar 0) pNo (pSome (fVar 1)))) (fTold (fSl (fVar 0) (pSome (fCall (fun ds => if ds.length = 2 then M_end_of ds else none) (fCons (fVar 0) (fCons (fVar 1) fNil)))) pNo))))))
def M_plan_without : List D → Option (List D) := mF G_plan_without 2
abbrev s_depths_and_words : Stmt := topS 35
abbrev N_depths_and_words : List Str := ["text", "depth", "rows", "word"]
def B_depths_and_words_1 : GF := (gIf (fB (f2 eqD (fVar 3) (fC (.str "(")))) (gAug 1 (· + ·) (pur (fC (.int 1)))) (gIf (fB (f2 eqD (fVar 3) (fC (.str ")")))) (gAug 1 (· - ·) (pur (fC (.int 1)))) (gApp 2 (fTup (fCons (fVar 1) (fCons (fVar 3) fNil))))))
def L_depths_and_words_1 : GF := (gFor (iSeq (fTold (fWords (f1 (replD ")" " ) ") (f1 (replD "(" " ( ") (fVar 0)))))) (aNm 3) B_depths_and_words_1)
def G_depths_and_words : GF := (gSeq (gSet 1 (fC (.int 0)))
    (gSeq (gOwn 2 (fLst fNil))
    (gSeq L_depths_and_words_1
    (gRetO 2))))
def M_depths_and_words : List D → Option (List D) := mF G_depths_and_words 4
abbrev s_parse_plan : Stmt := topS 38
abbrev N_parse_plan : List Str := ["text", "plan"]
def G_parse_plan : GF := (gSeq (gDropE (pur (fCall (fun ds => if ds.length = 1 then M_check_string ds else none) (fCons (fVar 0) fNil))))
    (gSeq (gOwn 1 (fCallF (fun ds => if ds.length = 1 then M_depths_and_words ds else none) (fCons (fVar 0) fNil)))
    (gSeq (gIf (bOr (bNot (fB (fFrz 1 (fCall (fun ds => if ds.length = 1 then M_is_plan ds else none) (fCons (fVar 1) fNil))))) (fB (f2 neD (fFrz 1 (fCall (fun ds => if ds.length = 1 then M_written_plan ds else none) (fCons (fVar 1) fNil))) (fVar 0)))) gNo gNx)
    (gRetO 1))))
def M_parse_plan : List D → Option (List D) := mF G_parse_plan 2
abbrev s_is_state : Stmt := topS 29
abbrev N_is_state : List Str := ["plan", "value"]
def G_is_state : GF := (gSeq (gDropE (pur (fCall (fun ds => if ds.length = 1 then M_check_plan ds else none) (fCons (fVar 0) fNil))))
    (gRet (fCall (fun ds => if ds.length = 2 then M_has_settings ds else none) (fCons (fVar 0) (fCons (fVar 1) fNil)))))
def M_is_state : List D → Option D := mV G_is_state 2
abbrev s_group_of : Stmt := topS 22
abbrev N_group_of : List Str := ["plan", "section"]
def G_group_of : GF := (gSeq (gDropE (pur (fCall (fun ds => if ds.length = 1 then M_check_plan ds else none) (fCons (fVar 0) fNil))))
    (gSeq (gDropE (pur (fCall (fun ds => if ds.length = 2 then M_check_section ds else none) (fCons (fVar 0) (fCons (fVar 1) fNil)))))
    (gRet (f2 ixD (fCall (fun ds => if ds.length = 1 then M_all_groups ds else none) (fCons (fVar 0) fNil)) (fVar 1)))))
def M_group_of : List D → Option D := mV G_group_of 2
abbrev s_sections_within : Stmt := topS 23
abbrev N_sections_within : List Str := ["plan", "section"]
def G_sections_within : GF := (gSeq (gDropE (pur (fCall (fun ds => if ds.length = 1 then M_check_plan ds else none) (fCons (fVar 0) fNil))))
    (gSeq (gDropE (pur (fCall (fun ds => if ds.length = 2 then M_check_section ds else none) (fCons (fVar 0) (fCons (fVar 1) fNil)))))
    (gRetF (fLrg2 (f2 addD (fVar 1) (fC (.int 1))) (fCall (fun ds => if ds.length = 2 then M_end_of ds else none) (fCons (fVar 0) (fCons (fVar 1) fNil)))))))
def M_sections_within : List D → Option (List D) := mF G_sections_within 2
abbrev s_law_holds : Stmt := topS 49
abbrev N_law_holds : List Str := ["source", "most", "written", "groups", "many", "turned", "found", "place", "page", "other", "one", "two", "less", "gone"]
def E_law_holds_1 : FD := (fVar 7)
def B_law_holds_1 : GF := (gSeq (gSet 12 (fTold (fCallF (fun ds => if ds.length = 2 then M_plan_without ds else none) (fCons (fVar 8) (fCons (fVar 7) fNil)))))
    (gSeq (gSet 13 (f2 addD (fC (.int 1)) (fCall lenD (fCons (fTold (fCallF (fun ds => if ds.length = 2 then M_sections_within ds else none) (fCons (fVar 8) (fCons (fVar 7) fNil)))) fNil))))
    (gIf (bOr (fB (f2 neD (fCall lenD (fCons (fVar 12) fNil)) (f2 subD (fCall lenD (fCons (fVar 8) fNil)) (fVar 13)))) (fB (f2 neD (fTold (fCallF (fun ds => if ds.length = 1 then M_parse_plan ds else none) (fCons (fCall (fun ds => if ds.length = 1 then M_format_plan ds else none) (fCons (fVar 12) fNil)) fNil))) (fVar 12)))) (gRet (fC (.bool false))) gNx)))
def L_law_holds_1 : GF := (gFor (iRg2 (fCons (fC (.int 1)) (fCons (fCall lenD (fCons (fVar 8) fNil)) fNil))) (aNm 7) B_law_holds_1)
def G_law_holds : GF := (gSeq (gAsgE (aTup 2 (aCons (aNm 8) (aCons (aNm 9) aNil))) (eTup (eCons (eTold (eCallGF M_law_page 2 (agSlot 0 (agVal (pur (fVar 1)) agNil)))) (eCons (eTold (eCallGF M_law_page 2 (agSlot 0 (agVal (pur (fVar 1)) agNil)))) eNil))))
    (gSeq (gIf (bOr (fB (f2 neD (f2 eqD (fCall (fun ds => if ds.length = 1 then M_format_plan ds else none) (fCons (fVar 8) fNil)) (fCall (fun ds => if ds.length = 1 then M_format_plan ds else none) (fCons (fVar 9) fNil))) (f2 eqD (fVar 8) (fVar 9)))) (fB (f2 neD (fTold (fCallF (fun ds => if ds.length = 1 then M_parse_plan ds else none) (fCons (fCall (fun ds => if ds.length = 1 then M_format_plan ds else none) (fCons (fVar 9) fNil)) fNil))) (fVar 9)))) (gRet (fC (.bool false))) gNx)
    (gSeq (gSet 2 (fCall (fun ds => if ds.length = 1 then M_format_plan ds else none) (fCons (fVar 8) fNil)))
    (gSeq (gOwn 3 (fLc [7] (iRg1 (fCons (fCall lenD (fCons (fVar 8) fNil)) fNil)) (aNm 7) (fB (f2 neD (fCall (fun ds => if ds.length = 2 then M_group_of ds else none) (fCons (fVar 8) (fCons (fVar 7) fNil))) (fTold (fLst fNil)))) E_law_holds_1))
    (gSeq (gSet 4 (f2 addD (f2 addD (f2 scntD (fVar 2) (fC (.str "one"))) (f2 scntD (fVar 2) (fC (.str "tab")))) (f2 scntD (fVar 2) (fC (.str "step")))))
    (gSeq (gIf (bOr (fB (f2 neD (fVar 4) (fCall lenD (fCons (fVar 8) fNil)))) (bOr (fB (f2 neD (f2 scntD (fVar 2) (fC (.str "("))) (fFrz 3 (fCall lenD (fCons (fVar 3) fNil))))) (fB (f2 neD (f2 scntD (fVar 2) (fC (.str ")"))) (fFrz 3 (fCall lenD (fCons (fVar 3) fNil))))))) (gRet (fC (.bool false))) gNx)
    (gSeq (gIf (fB (f2 neD (f2 addD (f2 scntD (fVar 2) (fC (.str " "))) (fFrz 3 (fCall lenD (fCons (fVar 3) fNil)))) (f2 subD (fCall lenD (fCons (fVar 8) fNil)) (fC (.int 1))))) (gRet (fC (.bool false))) gNx)
    (gSeq (gPar [10, 11] (vT (eTold (eCallGF M_law_kept 2 (agSlot 0 (agVal (pur (fVar 8)) agNil)))) (vT (eTold (eCallGF M_law_kept 2 (agSlot 0 (agVal (pur (fVar 8)) agNil)))) vNil)))
    (gSeq (gIf (fB (f2 neD (f2 eqD (fCall (fun ds => if ds.length = 2 then M_format_state ds else none) (fCons (fVar 8) (fCons (fVar 10) fNil))) (fCall (fun ds => if ds.length = 2 then M_format_state ds else none) (fCons (fVar 8) (fCons (fVar 11) fNil)))) (f2 eqD (fVar 10) (fVar 11)))) (gRet (fC (.bool false))) gNx)
    (gSeq (gIf (fB (f2 neD (f2 scntD (fCall (fun ds => if ds.length = 2 then M_format_state ds else none) (fCons (fVar 8) (fCons (fVar 10) fNil))) (fC (.str ":"))) (fFrz 3 (fCall lenD (fCons (fVar 3) fNil))))) (gRet (fC (.bool false))) gNx)
    (gSeq (gSetE 5 (e2 addD (eTold (eLst (eCons (eTup (eCons (pur (fC (.int 0))) (eCons (e2 ixD (pur (fTold (fLst (fCons (fC (.str "one")) (fCons (fC (.str "tab")) (fCons (fC (.str "step")) fNil)))))) (eCallG M_law_draw 2 (agSlot 0 (agVal (pur (fC (.int 3))) agNil)))) eNil))) eNil))) (pur (fTold (fSl (fVar 8) (pSome (fC (.int 1))) pNo)))))
    (gSeq (gSet 6 (fCall (fun ds => if ds.length = 2 then M_law_read ds else none) (fCons (fVar 5) (fCons (fCall (fun ds => if ds.length = 2 then M_format_state ds else none) (fCons (fVar 8) (fCons (fVar 10) fNil))) fNil))))
    (gSeq (gIf (bOr (fB (f2 neD (f2 eqD (fVar 6) (fVar 10)) (fCall (fun ds => if ds.length = 2 then M_is_state ds else none) (fCons (fVar 5) (fCons (fVar 10) fNil))))) (fB (f2 neD (fMapD isN (fVar 6)) (fNot (fCall (fun ds => if ds.length = 2 then M_is_state ds else none) (fCons (fVar 5) (fCons (fVar 10) fNil))))))) (gRet (fC (.bool false))) gNx)
    (gSeq L_law_holds_1
    (gRet (fC (.bool true)))))))))))))))))
def M_law_holds : Ev → Option (D × Ev) := mE G_law_holds 14 [0]
abbrev s_law_source : Stmt := topS 42
abbrev N_law_source : List Str := ["cell", "k"]
def G_law_source : GF := (gRetF (fLst (fCons (fCall maxD (fCons (fC (.int 0)) (fCons (f2 subD (fVar 0) (f2 powD (fC (.int 10)) (fC (.int 18)))) fNil))) (fCons (f2 addD (f2 mulD (f2 modD (fVar 0) (f2 addD (f2 powD (fC (.int 10)) (fC (.int 35))) (fC (.int 69)))) (fC (.int 97))) (fVar 1)) (fCons (fC (.int 0)) fNil)))))
def M_law_source : List D → Option (List D) := mF G_law_source 2
abbrev s_law : Stmt := topS 50
abbrev N_law : List Str := ["script", "k", "cell"]
def B_law_1 : GF := (gIfE (eNot (eB (eCallG M_law_holds 2 (agTmp (pur (fCallF (fun ds => if ds.length = 2 then M_law_source ds else none) (fCons (fVar 2) (fCons (fVar 1) fNil)))) (agVal (pur (fIf (fB (f2 eqD (fVar 0) (fTold (fLst fNil)))) (fC (.int 7)) (fC (.int 40)))) agNil))))) (gRet (fC (.bool false))) gNx)
def L_law_1 : GF := (gFor (iEn (fCons (fTold (fSl (f2 addD (fVar 0) (fTold (fLst (fCons (fC (.int 0)) fNil)))) pNo (pSome (fCall maxD (fCons (fC (.int 1)) (fCons (fCall minD (fCons (fCall lenD (fCons (fVar 0) fNil)) (fCons (fC (.int 10)) fNil))) fNil)))))) fNil)) (aTup 2 (aCons (aNm 1) (aCons (aNm 2) aNil))) B_law_1)
def G_law : GF := (gSeq L_law_1
    (gRet (fC (.bool true))))
def M_law : List D → Option D := mV G_law 3

end K14
set_option Elab.async false
set_option linter.all false
set_option maxRecDepth 100000
set_option maxHeartbeats 4000000
namespace K14
open PySem PySem.Spec L2 TL
open PyProof.Rows hiding St
theorem sc_depths_fit : FnScope N_depths_fit ["depths"] (defScope s_depths_fit) := ⟨rfl, rfl, rfl, by decide +kernel, rfl, by decide +kernel, by decide +kernel⟩
theorem ok_depths_fit {P : Program} {w : World} {K : PySem.W.Frag} {mg : Str → Option Value} {base : Heap} {f : Addr} {fd : FuncData} (F : Fun K "depths_fit" "depths_fit" s_depths_fit f fd) (B : Bn mg) (C : Cn K mg) :
    FnG P w K mg base CX0 1 f fd ["depths"] (spV K 1 M_depths_fit) := by
  exact okV (P := P) (w := w) (K := K) (mg := mg) (base := base) (N := N_depths_fit) (ps := ["depths"]) (st := s_depths_fit) (k := 0) (G := G_depths_fit) F sc_depths_fit (fun cdv A o s H E g hr => (bj_cons (sj_if (ptv_cmp (od_ne hr.units) (pv_ix (pv_var 0) pv_int (fun _ _ => rfl)) pv_int) (bj_one (sj_ret pv_bl)) bj_nil)
      (bj_one (sj_ret (pv_callB (cd_all rfl) (by rfl) B.b_all (by decide +kernel) (pav_cons (FV.pv (fv_lc (own := [("before", 1), ("depth", 2)]) rfl sc_depths_fit.nd (ij_zip (by rfl) B.b_zip (pav_cons (pv_var 0) (pav_cons (FV.pv (fv_sl (pv_var 0) (pj_some pv_int) pj_no)) pav_nil))) (blkOk_by (own := [("before", 1), ("depth", 2)]) (N := N_depths_fit) (sc := defScope s_depths_fit) (by decide +kernel)) rfl (fun _ _ _ _ _ => (tj_tup rfl (tjs_cons (tj_name 1 sc_depths_fit.nd rfl (by first | exact Or.inl rfl | exact Or.inr rfl)) (tjs_cons (tj_name 2 sc_depths_fit.nd rfl (by first | exact Or.inl rfl | exact Or.inr rfl)) tjs_nil)))) (fun _ _ _ _ _ => ts_nil) (fun _ _ _ _ _ => (pv_chain (od_le) (od_le) pv_int (pv_var 2) (pv_op od_add (pv_var 1) pv_int))))) pav_nil))))))
theorem sc_is_whole_number : FnScope N_is_whole_number ["value"] (defScope s_is_whole_number) := ⟨rfl, rfl, rfl, by decide +kernel, rfl, by decide +kernel, by decide +kernel⟩
theorem ok_is_whole_number {P : Program} {w : World} {K : PySem.W.Frag} {mg : Str → Option Value} {base : Heap} {f : Addr} {fd : FuncData} (F : Fun K "is_whole_number" "is_whole_number" s_is_whole_number f fd) (B : Bn mg) (C : Cn K mg) :
    FnG P w K mg base CX0 1 f fd ["value"] (spV K 1 M_is_whole_number) := by
  exact okV (P := P) (w := w) (K := K) (mg := mg) (base := base) (N := N_is_whole_number) (ps := ["value"]) (st := s_is_whole_number) (k := 0) (G := G_is_whole_number) F sc_is_whole_number (fun cdv A o s H E g hr => (bj_one (sj_ret (pv_and (pv_isi ty_int (by rfl) B.b_isinstance (by rfl) B.b_int (by decide +kernel) (pv_var 0)) (pv_one (pv_not (pv_isi ty_bool (by rfl) B.b_isinstance (by rfl) B.b_bool (by decide +kernel) (pv_var 0))))))))
theorem sc_is_kind_word : FnScope N_is_kind_word ["value"] (defScope s_is_kind_word) := ⟨rfl, rfl, rfl, by decide +kernel, rfl, by decide +kernel, by decide +kernel⟩
theorem ok_is_kind_word {P : Program} {w : World} {K : PySem.W.Frag} {mg : Str → Option Value} {base : Heap} {f : Addr} {fd : FuncData} (F : Fun K "is_kind_word" "is_kind_word" s_is_kind_word f fd) (B : Bn mg) (C : Cn K mg) :
    FnG P w K mg base CX0 1 f fd ["value"] (spV K 1 M_is_kind_word) := by
  exact okV (P := P) (w := w) (K := K) (mg := mg) (base := base) (N := N_is_kind_word) (ps := ["value"]) (st := s_is_kind_word) (k := 0) (G := G_is_kind_word) F sc_is_kind_word (fun cdv A o s H E g hr => (bj_one (sj_ret (pv_and (pv_isi ty_str (by rfl) B.b_isinstance (by rfl) B.b_str (by decide +kernel) (pv_var 0)) (pv_one (pv_cmp (od_in) (pv_var 0) (pv_const C.c_KINDS (by rfl))))))))
theorem sc_is_depth_and_kind : FnScope N_is_depth_and_kind ["value"] (defScope s_is_depth_and_kind) := ⟨rfl, rfl, rfl, by decide +kernel, rfl, by decide +kernel, by decide +kernel⟩
theorem ok_is_depth_and_kind {P : Program} {w : World} {K : PySem.W.Frag} {mg : Str → Option Value} {base : Heap} {f : Addr} {fd : FuncData} (F : Fun K "is_depth_and_kind" "is_depth_and_kind" s_is_depth_and_kind f fd) (B : Bn mg) (C : Cn K mg) (H_is_kind_word : CalK P w K mg base 1 "is_kind_word" ["value"] (spV K 1 M_is_kind_word) []) (H_is_whole_number : CalK P w K mg base 1 "is_whole_number" ["value"] (spV K 1 M_is_whole_number) []) :
    FnG P w K mg base CX0 2 f fd ["value"] (spV K 1 M_is_depth_and_kind) := by
  obtain ⟨f_is_kind_word, fd_is_kind_word, F_is_kind_word, m_is_kind_word, k_is_kind_word, b_is_kind_word, kw_is_kind_word⟩ := H_is_kind_word.ex
  obtain ⟨f_is_whole_number, fd_is_whole_number, F_is_whole_number, m_is_whole_number, k_is_whole_number, b_is_whole_number, kw_is_whole_number⟩ := H_is_whole_number.ex
  exact okV (P := P) (w := w) (K := K) (mg := mg) (base := base) (N := N_is_depth_and_kind) (ps := ["value"]) (st := s_is_depth_and_kind) (k := 1) (G := G_is_depth_and_kind) F sc_is_depth_and_kind (fun cdv A o s H E g hr => (bj_cons (sj_if (PWV.p (pwv_or (ptv_tyNe ty_tuple (by rfl) B.b_type (by rfl) B.b_tuple (by decide +kernel) (pv_var 0)) (pwv_or1 (ptv_cmp (od_ne hr.units) (pv_callB cd_len (by rfl) B.b_len (by decide +kernel) (pav_cons (pv_var 0) pav_nil)) pv_int)))) (bj_one (sj_ret pv_bl)) bj_nil)
      (bj_cons (sj_asg rfl (pv_var 0) (tj_tup rfl (tjs_cons (tj_name 1 sc_is_depth_and_kind.nd rfl (Or.inl rfl)) (tjs_cons (tj_name 2 sc_is_depth_and_kind.nd rfl (Or.inl rfl)) tjs_nil))))
      (bj_one (sj_ret (pv_and (pv_call F_is_whole_number g (hr.mono (by decide)) (by rfl) m_is_whole_number k_is_whole_number b_is_whole_number pass0 rfl (pav_cons (pv_var 1) pav_nil)) (pv_one (pv_call F_is_kind_word g (hr.mono (by decide)) (by rfl) m_is_kind_word k_is_kind_word b_is_kind_word pass0 rfl (pav_cons (pv_var 2) pav_nil)))))))))
theorem sc_is_plan : FnScope N_is_plan ["value"] (defScope s_is_plan) := ⟨rfl, rfl, rfl, by decide +kernel, rfl, by decide +kernel, by decide +kernel⟩
theorem ok_is_plan {P : Program} {w : World} {K : PySem.W.Frag} {mg : Str → Option Value} {base : Heap} {f : Addr} {fd : FuncData} (F : Fun K "is_plan" "is_plan" s_is_plan f fd) (B : Bn mg) (C : Cn K mg) (H_depths_fit : CalK P w K mg base 1 "depths_fit" ["depths"] (spV K 1 M_depths_fit) []) (H_is_depth_and_kind : CalK P w K mg base 2 "is_depth_and_kind" ["value"] (spV K 1 M_is_depth_and_kind) []) :
    FnG P w K mg base CX0 3 f fd ["value"] (spV K 1 M_is_plan) := by
  obtain ⟨f_depths_fit, fd_depths_fit, F_depths_fit, m_depths_fit, k_depths_fit, b_depths_fit, kw_depths_fit⟩ := H_depths_fit.ex
  obtain ⟨f_is_depth_and_kind, fd_is_depth_and_kind, F_is_depth_and_kind, m_is_depth_and_kind, k_is_depth_and_kind, b_is_depth_and_kind, kw_is_depth_and_kind⟩ := H_is_depth_and_kind.ex
  exact okV (P := P) (w := w) (K := K) (mg := mg) (base := base) (N := N_is_plan) (ps := ["value"]) (st := s_is_plan) (k := 2) (G := G_is_plan) F sc_is_plan (fun cdv A o s H E g hr => (bj_cons (sj_if (PWV.p (pwv_or (ptv_tyNe ty_list (by rfl) B.b_type (by rfl) B.b_list (by decide +kernel) (pv_var 0)) (pwv_or1 (ptv_not (ptv_chain (od_le) (od_le) pv_int (pv_callB cd_len (by rfl) B.b_len (by decide +kernel) (pav_cons (pv_var 0) pav_nil)) (pv_const C.c_MOST_SECTIONS (by rfl))))))) (bj_one (sj_ret pv_bl)) bj_nil)
      (bj_cons (sj_if (ptv_not (PV.t (pv_callB (cd_all rfl) (by rfl) B.b_all (by decide +kernel) (pav_cons (FV.pv (fv_lc (own := [("row", 1)]) rfl sc_is_plan.nd (ij_list (pv_var 0)) (blkOk_by (own := [("row", 1)]) (N := N_is_plan) (sc := defScope s_is_plan) (by decide +kernel)) rfl (fun _ _ _ _ _ => (tj_name 1 sc_is_plan.nd rfl (by first | exact Or.inl rfl | exact Or.inr rfl))) (fun _ _ _ _ _ => ts_nil) (fun _ _ _ _ _ => (pv_call F_is_depth_and_kind g (hr.mono (by decide)) (by rfl) m_is_depth_and_kind k_is_depth_and_kind b_is_depth_and_kind pass0 rfl (pav_cons (pv_var 1) pav_nil))))) pav_nil)))) (bj_one (sj_ret pv_bl)) bj_nil)
      (bj_one (sj_ret (pv_call F_depths_fit g (hr.mono (by decide)) (by rfl) m_depths_fit k_depths_fit b_depths_fit pass0 rfl (pav_cons (FV.pv (fv_lc (own := [("row", 1)]) rfl sc_is_plan.nd (ij_list (pv_var 0)) (blkOk_by (own := [("row", 1)]) (N := N_is_plan) (sc := defScope s_is_plan) (by decide +kernel)) rfl (fun _ _ _ _ _ => (tj_name 1 sc_is_plan.nd rfl (by first | exact Or.inl rfl | exact Or.inr rfl))) (fun _ _ _ _ _ => ts_nil) (fun _ _ _ _ _ => (pv_ix (pv_var 1) pv_int (fun _ _ => rfl))))) pav_nil)))))))
theorem sc_check_plan : FnScope N_check_plan ["plan"] (defScope s_check_plan) := ⟨rfl, rfl, rfl, by decide +kernel, rfl, by decide +kernel, by decide +kernel⟩
theorem ok_check_plan {P : Program} {w : World} {K : PySem.W.Frag} {mg : Str → Option Value} {base : Heap} {f : Addr} {fd : FuncData} (F : Fun K "check_plan" "check_plan" s_check_plan f fd) (B : Bn mg) (C : Cn K mg) (H_is_plan : CalK P w K mg base 3 "is_plan" ["value"] (spV K 1 M_is_plan) []) :
    FnG P w K mg base CX0 4 f fd ["plan"] (spV K 1 M_check_plan) := by
  obtain ⟨f_is_plan, fd_is_plan, F_is_plan, m_is_plan, k_is_plan, b_is_plan, kw_is_plan⟩ := H_is_plan.ex
  exact okV (P := P) (w := w) (K := K) (mg := mg) (base := base) (N := N_check_plan) (ps := ["plan"]) (st := s_check_plan) (k := 3) (G := G_check_plan) F sc_check_plan (fun cdv A o s H E g hr => (bj_one (sj_if (ptv_not (PV.t (pv_call F_is_plan g (hr.mono (by decide)) (by rfl) m_is_plan k_is_plan b_is_plan pass0 rfl (pav_cons (pv_var 0) pav_nil)))) (bj_one sj_never) bj_nil)))
theorem sc_written_plan : FnScope N_written_plan ["plan"] (defScope s_written_plan) := ⟨rfl, rfl, rfl, by decide +kernel, rfl, by decide +kernel, by decide +kernel⟩
theorem ok_written_plan {P : Program} {w : World} {K : PySem.W.Frag} {mg : Str → Option Value} {base : Heap} {f : Addr} {fd : FuncData} (F : Fun K "written_plan" "written_plan" s_written_plan f fd) (B : Bn mg) (C : Cn K mg) :
    FnG P w K mg base CX0 1 f fd ["plan"] (spV K 1 M_written_plan) := by
  exact okV (P := P) (w := w) (K := K) (mg := mg) (base := base) (N := N_written_plan) (ps := ["plan"]) (st := s_written_plan) (k := 0) (G := G_written_plan) F sc_written_plan (fun cdv A o s H E g hr => (bj_cons (sj_lc (i := 1) (own := [("depth", 4), ("_", 6)]) rfl rfl sc_written_plan.nd rfl rfl (sw_true rfl rfl rfl (by decide +kernel)) (ij_list (pv_var 0)) (blkOk_by (own := [("depth", 4), ("_", 6)]) (N := N_written_plan) (sc := defScope s_written_plan) (by decide +kernel)) rfl (fun _ _ _ _ _ => (tj_tup rfl (tjs_cons (tj_name 4 sc_written_plan.nd rfl (by first | exact Or.inl rfl | exact Or.inr rfl)) (tjs_cons (tj_name 6 sc_written_plan.nd rfl (by first | exact Or.inl rfl | exact Or.inr rfl)) tjs_nil)))) (fun _ _ _ _ _ => ts_nil) (fun _ _ _ _ _ => (pv_var 4)))
      (bj_cons (sj_own 2 rfl sc_written_plan.nd rfl (Or.inl rfl) (fv_lst pav_nil))
      (bj_cons (sj_for rfl PassesOwn.never rfl (ij_zip (by rfl) B.b_zip (pav_cons (pv_var 0) (pav_cons (pv_op od_add (FV.pv (fv_slO 1 (pj_some pv_int) pj_no)) (FV.pv (fv_lst (pav_cons pv_int pav_nil)))) pav_nil))) (tj_tup rfl (tjs_cons (tj_tup rfl (tjs_cons (tj_name 4 sc_written_plan.nd rfl (Or.inl rfl)) (tjs_cons (tj_name 5 sc_written_plan.nd rfl (Or.inl rfl)) tjs_nil))) (tjs_cons (tj_name 3 sc_written_plan.nd rfl (Or.inl rfl)) tjs_nil))) (bj_cons (sj_app 2 (pv_var 5))
      (bj_one (sj_app 2 (pv_if (ptv_cmp (od_gt) (pv_var 3) (pv_var 4)) pv_str (pv_op od_add (pv_op od_mulS pv_str (pv_op od_sub (pv_var 4) (pv_var 3))) pv_str))))))
      (bj_one (sj_ret (pv_rstrip (pv_frz 2 (pv_join pv_str (pv_var 2))))))))))
theorem sc_format_plan : FnScope N_format_plan ["plan"] (defScope s_format_plan) := ⟨rfl, rfl, rfl, by decide +kernel, rfl, by decide +kernel, by decide +kernel⟩
theorem ok_format_plan {P : Program} {w : World} {K : PySem.W.Frag} {mg : Str → Option Value} {base : Heap} {f : Addr} {fd : FuncData} (F : Fun K "format_plan" "format_plan" s_format_plan f fd) (B : Bn mg) (C : Cn K mg) (H_check_plan : CalK P w K mg base 4 "check_plan" ["plan"] (spV K 1 M_check_plan) []) (H_written_plan : CalK P w K mg base 1 "written_plan" ["plan"] (spV K 1 M_written_plan) []) :
    FnG P w K mg base CX0 5 f fd ["plan"] (spV K 1 M_format_plan) := by
  obtain ⟨f_check_plan, fd_check_plan, F_check_plan, m_check_plan, k_check_plan, b_check_plan, kw_check_plan⟩ := H_check_plan.ex
  obtain ⟨f_written_plan, fd_written_plan, F_written_plan, m_written_plan, k_written_plan, b_written_plan, kw_written_plan⟩ := H_written_plan.ex
  exact okV (P := P) (w := w) (K := K) (mg := mg) (base := base) (N := N_format_plan) (ps := ["plan"]) (st := s_format_plan) (k := 4) (G := G_format_plan) F sc_format_plan (fun cdv A o s H E g hr => (bj_cons (sj_dropE (PV.ef (pv_call F_check_plan g (hr.mono (by decide)) (by rfl) m_check_plan k_check_plan b_check_plan pass0 rfl (pav_cons (pv_var 0) pav_nil))))
      (bj_one (sj_ret (pv_call F_written_plan g (hr.mono (by decide)) (by rfl) m_written_plan k_written_plan b_written_plan pass0 rfl (pav_cons (pv_var 0) pav_nil))))))
theorem sc_check_string : FnScope N_check_string ["text"] (defScope s_check_string) := ⟨rfl, rfl, rfl, by decide +kernel, rfl, by decide +kernel, by decide +kernel⟩
theorem ok_check_string {P : Program} {w : World} {K : PySem.W.Frag} {mg : Str → Option Value} {base : Heap} {f : Addr} {fd : FuncData} (F : Fun K "check_string" "check_string" s_check_string f fd) (B : Bn mg) (C : Cn K mg) :
    FnG P w K mg base CX0 1 f fd ["text"] (spV K 1 M_check_string) := by
  exact okV (P := P) (w := w) (K := K) (mg := mg) (base := base) (N := N_check_string) (ps := ["text"]) (st := s_check_string) (k := 0) (G := G_check_string) F sc_check_string (fun cdv A o s H E g hr => (bj_one (sj_if (ptv_not (PV.t (pv_isi ty_str (by rfl) B.b_isinstance (by rfl) B.b_str (by decide +kernel) (pv_var 0)))) (bj_one sj_never) bj_nil)))
theorem sc_setting_among : FnScope N_setting_among ["words", "section", "choices"] (defScope s_setting_among) := ⟨rfl, rfl, rfl, by decide +kernel, rfl, by decide +kernel, by decide +kernel⟩
theorem ok_setting_among {P : Program} {w : World} {K : PySem.W.Frag} {mg : Str → Option Value} {base : Heap} {f : Addr} {fd : FuncData} (F : Fun K "setting_among" "setting_among" s_setting_among f fd) (B : Bn mg) (C : Cn K mg) :
    FnG P w K mg base CX0 1 f fd ["words", "section", "choices"] (spV K 3 M_setting_among) := by
  exact okV (P := P) (w := w) (K := K) (mg := mg) (base := base) (N := N_setting_among) (ps := ["words", "section", "choices"]) (st := s_setting_among) (k := 0) (G := G_setting_among) F sc_setting_among (fun cdv A o s H E g hr => (bj_cons (sj_lc (i := 3) (own := [("setting", 4)]) rfl rfl sc_setting_among.nd rfl rfl (sw_true rfl rfl rfl (by decide +kernel)) (ij_list (pv_var 2)) (blkOk_by (own := [("setting", 4)]) (N := N_setting_among) (sc := defScope s_setting_among) (by decide +kernel)) rfl (fun _ _ _ _ _ => (tj_name 4 sc_setting_among.nd rfl (by first | exact Or.inl rfl | exact Or.inr rfl))) (fun _ _ _ _ _ => (ts_one (ptv_cmp (od_in) (pv_joined (fs_fmt (pv_var 1) (fs_val pv_str (fs_fmt (pv_var 4) fs_nil)))) (pv_var 0)))) (fun _ _ _ _ _ => (pv_var 4)))
      (bj_one (sj_ret (pv_frz 3 (pv_ix (pv_op od_add (pv_var 3) (pv_var 2)) pv_int (fun _ _ => rfl)))))))
theorem sc_all_parents : FnScope N_all_parents ["plan"] (defScope s_all_parents) := ⟨rfl, rfl, rfl, by decide +kernel, rfl, by decide +kernel, by decide +kernel⟩
theorem ok_all_parents {P : Program} {w : World} {K : PySem.W.Frag} {mg : Str → Option Value} {base : Heap} {f : Addr} {fd : FuncData} (F : Fun K "all_parents" "all_parents" s_all_parents f fd) (B : Bn mg) (C : Cn K mg) :
    FnG P w K mg base CX0 1 f fd ["plan"] (spF K 1 M_all_parents) := by
  exact okF (P := P) (w := w) (K := K) (mg := mg) (base := base) (N := N_all_parents) (ps := ["plan"]) (st := s_all_parents) (k := 0) (G := G_all_parents) F sc_all_parents (fun cdv A o s H E g hr => (bj_cons (sj_dict0 1 rfl sc_all_parents.nd rfl (Or.inl rfl))
      (bj_cons (sj_own 2 rfl sc_all_parents.nd rfl (Or.inl rfl) (fv_lst pav_nil))
      (bj_cons (sj_for rfl PassesOwn.never rfl (ij_enum (by rfl) B.b_enumerate (pav_cons (pv_var 0) pav_nil)) (tj_tup rfl (tjs_cons (tj_name 3 sc_all_parents.nd rfl (Or.inl rfl)) (tjs_cons (tj_tup rfl (tjs_cons (tj_name 4 sc_all_parents.nd rfl (Or.inl rfl)) (tjs_cons (tj_name 5 sc_all_parents.nd rfl (Or.inl rfl)) tjs_nil))) tjs_nil))) (bj_cons (sj_dput 1 (pv_var 3) (pv_var 4) (hu1 hr))
      (bj_one (sj_app 2 (pv_get1 1 (hu1 hr) (pv_op od_sub (pv_var 4) pv_int))))))
      (bj_one (sj_retO 2 rfl))))))
theorem sc_all_groups : FnScope N_all_groups ["plan"] (defScope s_all_groups) := ⟨rfl, rfl, rfl, by decide +kernel, rfl, by decide +kernel, by decide +kernel⟩
theorem ok_all_groups {P : Program} {w : World} {K : PySem.W.Frag} {mg : Str → Option Value} {base : Heap} {f : Addr} {fd : FuncData} (F : Fun K "all_groups" "all_groups" s_all_groups f fd) (B : Bn mg) (C : Cn K mg) (H_all_parents : CalK P w K mg base 1 "all_parents" ["plan"] (spF K 1 M_all_parents) []) :
    FnG P w K mg base CX0 2 f fd ["plan"] (spV K 1 M_all_groups) := by
  obtain ⟨f_all_parents, fd_all_parents, F_all_parents, m_all_parents, k_all_parents, b_all_parents, kw_all_parents⟩ := H_all_parents.ex
  exact okV (P := P) (w := w) (K := K) (mg := mg) (base := base) (N := N_all_groups) (ps := ["plan"]) (st := s_all_groups) (k := 1) (G := G_all_groups) F sc_all_groups (fun cdv A o s H E g hr => (bj_cons (sj_lcO (i := 1) (own := [("row", 4)]) rfl rfl sc_all_groups.nd rfl rfl (sw_true rfl rfl rfl (by decide +kernel)) (ij_list (pv_var 0)) (blkOk_by (own := [("row", 4)]) (N := N_all_groups) (sc := defScope s_all_groups) (by decide +kernel)) rfl (fun _ _ _ _ _ => (tj_name 4 sc_all_groups.nd rfl (by first | exact Or.inl rfl | exact Or.inr rfl))))
      (bj_cons (sj_for rfl PassesOwn.never rfl (ij_enum (by rfl) B.b_enumerate (pav_cons (FV.pv (fv_call F_all_parents g (hr.mono (by decide)) (by rfl) m_all_parents k_all_parents b_all_parents pass0 rfl (pav_cons (pv_var 0) pav_nil))) pav_nil)) (tj_tup rfl (tjs_cons (tj_name 2 sc_all_groups.nd rfl (Or.inl rfl)) (tjs_cons (tj_name 3 sc_all_groups.nd rfl (Or.inl rfl)) tjs_nil))) (bj_one (sj_if (ptv_isNN (pv_var 3)) (bj_one (sj_app2 1 (pv_var 3) (pv_var 2) (fun _ _ => rfl))) bj_nil)))
      (bj_one (sj_frzO 1 rfl (sj_ret (pv_var 1)))))))
theorem sc_written_state : FnScope N_written_state ["plan", "state"] (defScope s_written_state) := ⟨rfl, rfl, rfl, by decide +kernel, rfl, by decide +kernel, by decide +kernel⟩
theorem ok_written_state {P : Program} {w : World} {K : PySem.W.Frag} {mg : Str → Option Value} {base : Heap} {f : Addr} {fd : FuncData} (F : Fun K "written_state" "written_state" s_written_state f fd) (B : Bn mg) (C : Cn K mg) (H_all_groups : CalK P w K mg base 2 "all_groups" ["plan"] (spV K 1 M_all_groups) []) :
    FnG P w K mg base CX0 3 f fd ["plan", "state"] (spV K 2 M_written_state) := by
  obtain ⟨f_all_groups, fd_all_groups, F_all_groups, m_all_groups, k_all_groups, b_all_groups, kw_all_groups⟩ := H_all_groups.ex
  exact okV (P := P) (w := w) (K := K) (mg := mg) (base := base) (N := N_written_state) (ps := ["plan", "state"]) (st := s_written_state) (k := 2) (G := G_written_state) F sc_written_state (fun cdv A o s H E g hr => (bj_one (sj_ret (pv_join pv_str (FV.pv (fv_lc (own := [("section", 2), ("group", 3)]) rfl sc_written_state.nd (ij_enum (by rfl) B.b_enumerate (pav_cons (pv_call F_all_groups g (hr.mono (by decide)) (by rfl) m_all_groups k_all_groups b_all_groups pass0 rfl (pav_cons (pv_var 0) pav_nil)) pav_nil)) (blkOk_by (own := [("section", 2), ("group", 3)]) (N := N_written_state) (sc := defScope s_written_state) (by decide +kernel)) rfl (fun _ _ _ _ _ => (tj_tup rfl (tjs_cons (tj_name 2 sc_written_state.nd rfl (by first | exact Or.inl rfl | exact Or.inr rfl)) (tjs_cons (tj_name 3 sc_written_state.nd rfl (by first | exact Or.inl rfl | exact Or.inr rfl)) tjs_nil)))) (fun _ _ _ _ _ => (ts_one (PV.tru (pv_var 3)))) (fun _ _ _ _ _ => (pv_joined (fs_fmt (pv_var 2) (fs_val pv_str (fs_fmt (pv_ix (pv_var 1) (pv_var 2) (fun _ _ => rfl)) fs_nil)))))))))))
theorem sc_group_choices : FnScope N_group_choices ["kind", "group"] (defScope s_group_choices) := ⟨rfl, rfl, rfl, by decide +kernel, rfl, by decide +kernel, by decide +kernel⟩
theorem ok_group_choices {P : Program} {w : World} {K : PySem.W.Frag} {mg : Str → Option Value} {base : Heap} {f : Addr} {fd : FuncData} (F : Fun K "group_choices" "group_choices" s_group_choices f fd) (B : Bn mg) (C : Cn K mg) :
    FnG P w K mg base CX0 1 f fd ["kind", "group"] (spV K 2 M_group_choices) := by
  exact okV (P := P) (w := w) (K := K) (mg := mg) (base := base) (N := N_group_choices) (ps := ["kind", "group"]) (st := s_group_choices) (k := 0) (G := G_group_choices) F sc_group_choices (fun cdv A o s H E g hr => (bj_cons (sj_if (PWV.p (pwv_or (ptv_cmp (od_eq hr.units) (pv_var 0) pv_str) (pwv_or1 (ptv_not (PV.tru (pv_var 1)))))) (bj_one (sj_ret (FV.pv (fv_lst (pav_cons pv_int (pav_star (pv_var 1) pav_nil)))))) bj_nil)
      (bj_one (sj_ret (pv_var 1)))))
theorem sc_all_choices : FnScope N_all_choices ["plan"] (defScope s_all_choices) := ⟨rfl, rfl, rfl, by decide +kernel, rfl, by decide +kernel, by decide +kernel⟩
theorem ok_all_choices {P : Program} {w : World} {K : PySem.W.Frag} {mg : Str → Option Value} {base : Heap} {f : Addr} {fd : FuncData} (F : Fun K "all_choices" "all_choices" s_all_choices f fd) (B : Bn mg) (C : Cn K mg) (H_all_groups : CalK P w K mg base 2 "all_groups" ["plan"] (spV K 1 M_all_groups) []) (H_group_choices : CalK P w K mg base 1 "group_choices" ["kind", "group"] (spV K 2 M_group_choices) []) :
    FnG P w K mg base CX0 3 f fd ["plan"] (spF K 1 M_all_choices) := by
  obtain ⟨f_all_groups, fd_all_groups, F_all_groups, m_all_groups, k_all_groups, b_all_groups, kw_all_groups⟩ := H_all_groups.ex
  obtain ⟨f_group_choices, fd_group_choices, F_group_choices, m_group_choices, k_group_choices, b_group_choices, kw_group_choices⟩ := H_group_choices.ex
  exact okF (P := P) (w := w) (K := K) (mg := mg) (base := base) (N := N_all_choices) (ps := ["plan"]) (st := s_all_choices) (k := 2) (G := G_all_choices) F sc_all_choices (fun cdv A o s H E g hr => (bj_one (sj_retF (fv_lc (own := [("row", 1), ("group", 2)]) rfl sc_all_choices.nd (ij_zip (by rfl) B.b_zip (pav_cons (pv_var 0) (pav_cons (pv_call F_all_groups g (hr.mono (by decide)) (by rfl) m_all_groups k_all_groups b_all_groups pass0 rfl (pav_cons (pv_var 0) pav_nil)) pav_nil))) (blkOk_by (own := [("row", 1), ("group", 2)]) (N := N_all_choices) (sc := defScope s_all_choices) (by decide +kernel)) rfl (fun _ _ _ _ _ => (tj_tup rfl (tjs_cons (tj_name 1 sc_all_choices.nd rfl (by first | exact Or.inl rfl | exact Or.inr rfl)) (tjs_cons (tj_name 2 sc_all_choices.nd rfl (by first | exact Or.inl rfl | exact Or.inr rfl)) tjs_nil)))) (fun _ _ _ _ _ => ts_nil) (fun _ _ _ _ _ => (pv_call F_group_choices g (hr.mono (by decide)) (by rfl) m_group_choices k_group_choices b_group_choices pass0 rfl (pav_cons (pv_ix (pv_var 1) pv_int (fun _ _ => rfl)) (pav_cons (pv_var 2) pav_nil))))))))
theorem sc_parse_state : FnScope N_parse_state ["plan", "text"] (defScope s_parse_state) := ⟨rfl, rfl, rfl, by decide +kernel, rfl, by decide +kernel, by decide +kernel⟩
theorem ok_parse_state {P : Program} {w : World} {K : PySem.W.Frag} {mg : Str → Option Value} {base : Heap} {f : Addr} {fd : FuncData} (F : Fun K "parse_state" "parse_state" s_parse_state f fd) (B : Bn mg) (C : Cn K mg) {C_InvalidFormatError : Addr} (E_InvalidFormatError : ErrK K mg "InvalidFormatError" C_InvalidFormatError) (H_all_choices : CalK P w K mg base 3 "all_choices" ["plan"] (spF K 1 M_all_choices) []) (H_check_plan : CalK P w K mg base 4 "check_plan" ["plan"] (spV K 1 M_check_plan) []) (H_check_string : CalK P w K mg base 1 "check_string" ["text"] (spV K 1 M_check_string) []) (H_setting_among : CalK P w K mg base 1 "setting_among" ["words", "section", "choices"] (spV K 3 M_setting_among) []) (H_written_state : CalK P w K mg base 3 "written_state" ["plan", "state"] (spV K 2 M_written_state) []) :
    FnG P w K mg base (L2.CX P w) 5 f fd ["plan", "text"] (spFX K 2 C_InvalidFormatError M_parse_state) := by
  obtain ⟨f_all_choices, fd_all_choices, F_all_choices, m_all_choices, k_all_choices, b_all_choices, kw_all_choices⟩ := H_all_choices.ex
  obtain ⟨f_check_plan, fd_check_plan, F_check_plan, m_check_plan, k_check_plan, b_check_plan, kw_check_plan⟩ := H_check_plan.ex
  obtain ⟨f_check_string, fd_check_string, F_check_string, m_check_string, k_check_string, b_check_string, kw_check_string⟩ := H_check_string.ex
  obtain ⟨f_setting_among, fd_setting_among, F_setting_among, m_setting_among, k_setting_among, b_setting_among, kw_setting_among⟩ := H_setting_among.ex
  obtain ⟨f_written_state, fd_written_state, F_written_state, m_written_state, k_written_state, b_written_state, kw_written_state⟩ := H_written_state.ex
  exact okFX (P := P) (w := w) (K := K) (mg := mg) (base := base) (N := N_parse_state) (ps := ["plan", "text"]) (st := s_parse_state) (k := 4) (G := G_parse_state) F sc_parse_state (fun cdv A o s H E g hr => (bjx_cons (sj_dropE (PV.ef (pv_call F_check_plan g (hr.mono (by decide)) (by rfl) m_check_plan k_check_plan b_check_plan pass0 rfl (pav_cons (pv_var 0) pav_nil))))
      (bjx_cons (sj_dropE (PV.ef (pv_call F_check_string g (hr.mono (by decide)) (by rfl) m_check_string k_check_string b_check_string pass0 rfl (pav_cons (pv_var 1) pav_nil))))
      (bjx_cons (sj_set 2 rfl sc_parse_state.nd rfl (Or.inr rfl) (FV.pv (fv_words (pv_var 1))))
      (bjx_cons (sj_lc (i := 3) (own := [("section", 4), ("choices", 5)]) rfl rfl sc_parse_state.nd rfl rfl (sw_true rfl rfl rfl (by decide +kernel)) (ij_enum (by rfl) B.b_enumerate (pav_cons (FV.pv (fv_call F_all_choices g (hr.mono (by decide)) (by rfl) m_all_choices k_all_choices b_all_choices pass0 rfl (pav_cons (pv_var 0) pav_nil))) pav_nil)) (blkOk_by (own := [("section", 4), ("choices", 5)]) (N := N_parse_state) (sc := defScope s_parse_state) (by decide +kernel)) rfl (fun _ _ _ _ _ => (tj_tup rfl (tjs_cons (tj_name 4 sc_parse_state.nd rfl (by first | exact Or.inl rfl | exact Or.inr rfl)) (tjs_cons (tj_name 5 sc_parse_state.nd rfl (by first | exact Or.inl rfl | exact Or.inr rfl)) tjs_nil)))) (fun _ _ _ _ _ => ts_nil) (fun _ _ _ _ _ => (pv_call F_setting_among g (hr.mono (by decide)) (by rfl) m_setting_among k_setting_among b_setting_among pass0 rfl (pav_cons (pv_var 2) (pav_cons (pv_var 4) (pav_cons (pv_var 5) pav_nil))))))
      (bjx_raise rfl (takes_of rfl rfl rfl rfl) (E_InvalidFormatError.pmk (by rfl)) (ptv_cmp (od_ne hr.units) (pv_frz 3 (pv_call F_written_state g (hr.mono (by decide)) (by rfl) m_written_state k_written_state b_written_state pass0 rfl (pav_cons (pv_var 0) (pav_cons (pv_var 3) pav_nil)))) (pv_var 1))
      (bjx_end (bj_one (sj_retO 3 rfl)))))))))
theorem sc_law_read : FnScope N_law_read ["page", "written"] (defScope s_law_read) := ⟨rfl, rfl, rfl, by decide +kernel, rfl, by decide +kernel, by decide +kernel⟩
theorem ok_law_read {P : Program} {w : World} {K : PySem.W.Frag} {mg : Str → Option Value} {base : Heap} {f : Addr} {fd : FuncData} (F : Fun K "_law_read" "_law_read" s_law_read f fd) (B : Bn mg) (C : Cn K mg) {C_InvalidFormatError : Addr} (E_InvalidFormatError : ErrK K mg "InvalidFormatError" C_InvalidFormatError) (H_parse_state : CalX P w K mg base 5 "parse_state" ["plan", "text"] (spFX K 2 C_InvalidFormatError M_parse_state)) :
    FnG P w K mg base CX0 6 f fd ["page", "written"] (spV K 2 M_law_read) := by
  obtain ⟨f_parse_state, fd_parse_state, F_parse_state, m_parse_state, k_parse_state, b_parse_state⟩ := H_parse_state.ex
  exact okV (P := P) (w := w) (K := K) (mg := mg) (base := base) (N := N_law_read) (ps := ["page", "written"]) (st := s_law_read) (k := 5) (G := G_law_read) F sc_law_read (fun cdv A o s H E g hr => (bj_one (sj_tryF F_parse_state g (hr.mono (by decide)) (by rfl) m_parse_state k_parse_state b_parse_state (E_InvalidFormatError.names (by rfl)) E_InvalidFormatError.em (fun pn xe => (pav_cons (pv_var 0) (pav_cons (pv_var 1) pav_nil))))))
theorem sc_law_draw : FnScope N_law_draw ["source", "count"] (defScope s_law_draw) := ⟨rfl, rfl, rfl, by decide +kernel, rfl, by decide +kernel, by decide +kernel⟩
theorem ok_law_draw {P : Program} {w : World} {K : PySem.W.Frag} {mg : Str → Option Value} {base : Heap} {f : Addr} {fd : FuncData} (F : Fun K "_law_draw" "_law_draw" s_law_draw f fd) (B : Bn mg) (C : Cn K mg) :
    FnG P w K mg base CX0 1 f fd ["source", "count"] (spE K 2 M_law_draw) := by
  exact okE (P := P) (w := w) (K := K) (mg := mg) (base := base) (N := N_law_draw) (ps := ["source", "count"]) (st := s_law_draw) (k := 0) (G := G_law_draw) (kp := [0]) F sc_law_draw (fun cdv A o s H E g hr => (bj_cons (sj_if (ptv_cmp (od_gt) (pv_ixO 0 pv_int (fun _ _ => rfl)) pv_int) (bj_cons (sj_set 3 rfl sc_law_draw.nd rfl (Or.inl rfl) (pv_op od_mod (pv_ixO 0 pv_int (fun _ _ => rfl)) (pv_var 1)))
      (bj_cons (sj_put 0 (pv_op od_div (pv_ixO 0 pv_int (fun _ _ => rfl)) (pv_var 1)) pv_int)
      (bj_one (sj_ret (pv_var 3))))) bj_nil)
      (bj_cons (sj_put 0 (pv_op od_add (pv_ixO 0 pv_int (fun _ _ => rfl)) pv_int) pv_int)
      (bj_cons (sj_set 2 rfl sc_law_draw.nd rfl (Or.inl rfl) (pv_op od_mod (pv_op od_pow (pv_op od_add (pv_ixO 0 pv_int (fun _ _ => rfl)) (pv_op od_mul pv_int (pv_ixO 0 pv_int (fun _ _ => rfl)))) pv_int) (pv_op od_add (pv_op od_pow pv_int pv_int) pv_int)))
      (bj_cons (sj_set 2 rfl sc_law_draw.nd rfl (Or.inl rfl) (pv_op od_mod (pv_op od_pow (pv_op od_add (pv_var 2) (pv_op od_mul pv_int (pv_ixO 0 pv_int (fun _ _ => rfl)))) pv_int) (pv_op od_add (pv_op od_pow pv_int pv_int) pv_int)))
      (bj_one (sj_ret (pv_op od_mod (pv_op od_div (pv_var 2) pv_int) (pv_var 1)))))))))
theorem sc_law_page : FnScope N_law_page ["source", "most"] (defScope s_law_page) := ⟨rfl, rfl, rfl, by decide +kernel, rfl, by decide +kernel, by decide +kernel⟩
theorem ok_law_page {P : Program} {w : World} {K : PySem.W.Frag} {mg : Str → Option Value} {base : Heap} {f : Addr} {fd : FuncData} (F : Fun K "_law_page" "_law_page" s_law_page f fd) (B : Bn mg) (C : Cn K mg) (H_law_draw : CalK P w K mg base 1 "_law_draw" ["source", "count"] (spE K 2 M_law_draw) []) :
    FnG P w K mg base CX0 2 f fd ["source", "most"] (spEF K 2 M_law_page) := by
  obtain ⟨f_law_draw, fd_law_draw, F_law_draw, m_law_draw, k_law_draw, b_law_draw, kw_law_draw⟩ := H_law_draw.ex
  exact okEF (P := P) (w := w) (K := K) (mg := mg) (base := base) (N := N_law_page) (ps := ["source", "most"]) (st := s_law_page) (k := 1) (G := G_law_page) (kp := [0]) F sc_law_page (fun cdv A o s H E g hr => (bj_cons (sj_setE 2 rfl sc_law_page.nd rfl (Or.inl rfl) (ev_ix (EVF.v (evf_lst (eav_cons (ev_op od_add (PV.ef pv_int) (ev_callG F_law_draw g (hr.mono (by decide)) (by rfl) m_law_draw k_law_draw b_law_draw pass0 (aj_slot 0 (aj_val (PV.ef (pv_var 1)) aj_nil)))) (eav_cons (ev_op od_add (PV.ef pv_int) (ev_callG F_law_draw g (hr.mono (by decide)) (by rfl) m_law_draw k_law_draw b_law_draw pass0 (aj_slot 0 (aj_val (PV.ef (pv_callB (cd_min rfl) (by rfl) B.b_min (by decide +kernel) (pav_cons (pv_var 1) (pav_cons pv_int pav_nil)))) aj_nil)))) (eav_cons (PV.ef (pv_var 1)) eav_nil))))) (ev_callG F_law_draw g (hr.mono (by decide)) (by rfl) m_law_draw k_law_draw b_law_draw pass0 (aj_slot 0 (aj_val (PV.ef pv_int) aj_nil))) (fun _ _ => rfl)))
      (bj_cons (sj_par (i := 4) (j := 5) rfl rfl sc_law_page.nd rfl rfl (by decide) rfl rfl (fj_t (ev_callG F_law_draw g (hr.mono (by decide)) (by rfl) m_law_draw k_law_draw b_law_draw pass0 (aj_slot 0 (aj_val (PV.ef pv_int) aj_nil))) (fj_f (evf_lst (eav_cons (ev_tup (eav_cons (PV.ef pv_int) (eav_cons (ev_ix (PV.ef (FV.pv (fv_lst (pav_cons pv_str (pav_cons pv_str (pav_cons pv_str pav_nil)))))) (ev_callG F_law_draw g (hr.mono (by decide)) (by rfl) m_law_draw k_law_draw b_law_draw pass0 (aj_slot 0 (aj_val (PV.ef pv_int) aj_nil))) (fun _ _ => rfl)) eav_nil))) eav_nil)) fj_nil)) (by rfl))
      (bj_cons (sj_for rfl PassesOwn.never rfl (ij_rng1 (by rfl) B.b_range (pav_cons (pv_op od_sub (pv_var 2) pv_int) pav_nil)) (tj_name 3 sc_law_page.nd rfl (Or.inl rfl)) (bj_cons (sj_set 6 rfl sc_law_page.nd rfl (Or.inl rfl) (pv_ix (pv_ixO 5 (pv_neg pv_int) (fun _ _ => rfl)) pv_int (fun _ _ => rfl)))
      (bj_cons (sj_setE 7 rfl sc_law_page.nd rfl (Or.inl rfl) (EVF.v (evf_lst (eav_cons (PV.ef (pv_op od_add (pv_var 6) pv_int)) (eav_cons (PV.ef pv_int) (eav_cons (ev_op od_add (PV.ef pv_int) (ev_callG F_law_draw g (hr.mono (by decide)) (by rfl) m_law_draw k_law_draw b_law_draw pass0 (aj_slot 0 (aj_val (PV.ef (pv_op od_add (pv_var 6) pv_int)) aj_nil)))) (eav_cons (ev_callB (cd_max rfl) (by rfl) B.b_max (by decide +kernel) (eav_cons (PV.ef pv_int) (eav_cons (ev_op od_sub (PV.ef (pv_op od_add (pv_var 6) pv_int)) (ev_callG F_law_draw g (hr.mono (by decide)) (by rfl) m_law_draw k_law_draw b_law_draw pass0 (aj_slot 0 (aj_val (PV.ef pv_int) aj_nil)))) eav_nil))) (eav_cons (PV.ef (pv_op od_add pv_int (pv_op od_mod (pv_var 3) pv_int))) eav_nil))))))))
      (bj_one (sj_appE 5 (ev_tup (eav_cons (PV.ef (pv_ix (pv_var 7) (pv_var 4) (fun _ _ => rfl))) (eav_cons (ev_ix (PV.ef (FV.pv (fv_lst (pav_cons pv_str (pav_cons pv_str (pav_cons pv_str pav_nil)))))) (ev_callG F_law_draw g (hr.mono (by decide)) (by rfl) m_law_draw k_law_draw b_law_draw pass0 (aj_slot 0 (aj_val (PV.ef pv_int) aj_nil))) (fun _ _ => rfl)) eav_nil))))))))
      (bj_one (sj_retO 5 rfl))))))
theorem sc_law_upper : FnScope N_law_upper ["page"] (defScope s_law_upper) := ⟨rfl, rfl, rfl, by decide +kernel, rfl, by decide +kernel, by decide +kernel⟩
theorem ok_law_upper {P : Program} {w : World} {K : PySem.W.Frag} {mg : Str → Option Value} {base : Heap} {f : Addr} {fd : FuncData} (F : Fun K "_law_upper" "_law_upper" s_law_upper f fd) (B : Bn mg) (C : Cn K mg) :
    FnG P w K mg base CX0 1 f fd ["page"] (spF K 1 M_law_upper) := by
  exact okF (P := P) (w := w) (K := K) (mg := mg) (base := base) (N := N_law_upper) (ps := ["page"]) (st := s_law_upper) (k := 0) (G := G_law_upper) F sc_law_upper (fun cdv A o s H E g hr => (bj_cons (sj_own 1 rfl sc_law_upper.nd rfl (Or.inl rfl) (fv_lst pav_nil))
      (bj_cons (sj_for rfl PassesOwn.never rfl (ij_enum (by rfl) B.b_enumerate (pav_cons (pv_var 0) pav_nil)) (tj_tup rfl (tjs_cons (tj_name 2 sc_law_upper.nd rfl (Or.inl rfl)) (tjs_cons (tj_name 3 sc_law_upper.nd rfl (Or.inr rfl)) tjs_nil))) (bj_cons (sj_lc (i := 4) (own := [("spot", 5)]) rfl rfl sc_law_upper.nd rfl rfl (sw_true rfl rfl rfl (by decide +kernel)) (ij_rng1 (by rfl) B.b_range (pav_cons (pv_var 2) pav_nil)) (blkOk_by (own := [("spot", 5)]) (N := N_law_upper) (sc := defScope s_law_upper) (by decide +kernel)) rfl (fun _ _ _ _ _ => (tj_name 5 sc_law_upper.nd rfl (by first | exact Or.inl rfl | exact Or.inr rfl))) (fun _ _ _ _ _ => (ts_one (ptv_cmp (od_eq hr.units) (pv_ix (pv_ix (pv_var 0) (pv_var 5) (fun _ _ => rfl)) pv_int (fun _ _ => rfl)) (pv_op od_sub (pv_ix (pv_var 3) pv_int (fun _ _ => rfl)) pv_int)))) (fun _ _ _ _ _ => (pv_var 5)))
      (bj_one (sj_app 1 (pv_if (ptv_frz 4 (ptv_cmp (od_ne hr.units) (pv_var 4) (FV.pv (fv_lst pav_nil)))) (pv_ixO 4 (pv_neg pv_int) (fun _ _ => rfl)) pv_non)))))
      (bj_one (sj_retO 1 rfl)))))
theorem sc_law_lower : FnScope N_law_lower ["page"] (defScope s_law_lower) := ⟨rfl, rfl, rfl, by decide +kernel, rfl, by decide +kernel, by decide +kernel⟩
theorem ok_law_lower {P : Program} {w : World} {K : PySem.W.Frag} {mg : Str → Option Value} {base : Heap} {f : Addr} {fd : FuncData} (F : Fun K "_law_lower" "_law_lower" s_law_lower f fd) (B : Bn mg) (C : Cn K mg) (H_law_upper : CalK P w K mg base 1 "_law_upper" ["page"] (spF K 1 M_law_upper) []) :
    FnG P w K mg base CX0 2 f fd ["page"] (spF K 1 M_law_lower) := by
  obtain ⟨f_law_upper, fd_law_upper, F_law_upper, m_law_upper, k_law_upper, b_law_upper, kw_law_upper⟩ := H_law_upper.ex
  exact okF (P := P) (w := w) (K := K) (mg := mg) (base := base) (N := N_law_lower) (ps := ["page"]) (st := s_law_lower) (k := 1) (G := G_law_lower) F sc_law_lower (fun cdv A o s H E g hr => (bj_cons (sj_set 1 rfl sc_law_lower.nd rfl (Or.inr rfl) (FV.pv (fv_call F_law_upper g (hr.mono (by decide)) (by rfl) m_law_upper k_law_upper b_law_upper pass0 rfl (pav_cons (pv_var 0) pav_nil))))
      (bj_one (sj_retF (fv_lc (own := [("place", 2)]) rfl sc_law_lower.nd (ij_rng1 (by rfl) B.b_range (pav_cons (pv_callB cd_len (by rfl) B.b_len (by decide +kernel) (pav_cons (pv_var 0) pav_nil)) pav_nil)) (blkOk_by (own := [("place", 2)]) (N := N_law_lower) (sc := defScope s_law_lower) (by decide +kernel)) rfl (fun _ _ _ _ _ => (tj_name 2 sc_law_lower.nd rfl (by first | exact Or.inl rfl | exact Or.inr rfl))) (fun _ _ _ _ _ => ts_nil) (fun _ _ _ _ _ => (FV.pv (fv_lc (own := [("spot", 3)]) rfl sc_law_lower.nd (ij_rng1 (by rfl) B.b_range (pav_cons (pv_callB cd_len (by rfl) B.b_len (by decide +kernel) (pav_cons (pv_var 0) pav_nil)) pav_nil)) (blkOk_by (own := [("spot", 3)]) (by kernel_rfl)) rfl (fun _ _ _ _ _ => (tj_name 3 sc_law_lower.nd rfl (by first | exact Or.inl rfl | exact Or.inr rfl))) (fun _ _ _ _ _ => (ts_one (ptv_cmp (od_eq hr.units) (pv_ix (pv_var 1) (pv_var 3) (fun _ _ => rfl)) (pv_var 2)))) (fun _ _ _ _ _ => (pv_var 3))))))))))
theorem sc_law_kept : FnScope N_law_kept ["source", "page"] (defScope s_law_kept) := ⟨rfl, rfl, rfl, by decide +kernel, rfl, by decide +kernel, by decide +kernel⟩
theorem ok_law_kept {P : Program} {w : World} {K : PySem.W.Frag} {mg : Str → Option Value} {base : Heap} {f : Addr} {fd : FuncData} (F : Fun K "_law_kept" "_law_kept" s_law_kept f fd) (B : Bn mg) (C : Cn K mg) (H_law_draw : CalK P w K mg base 1 "_law_draw" ["source", "count"] (spE K 2 M_law_draw) []) (H_law_lower : CalK P w K mg base 2 "_law_lower" ["page"] (spF K 1 M_law_lower) []) :
    FnG P w K mg base CX0 3 f fd ["source", "page"] (spEF K 2 M_law_kept) := by
  obtain ⟨f_law_draw, fd_law_draw, F_law_draw, m_law_draw, k_law_draw, b_law_draw, kw_law_draw⟩ := H_law_draw.ex
  obtain ⟨f_law_lower, fd_law_lower, F_law_lower, m_law_lower, k_law_lower, b_law_lower, kw_law_lower⟩ := H_law_lower.ex
  exact okEF (P := P) (w := w) (K := K) (mg := mg) (base := base) (N := N_law_kept) (ps := ["source", "page"]) (st := s_law_kept) (k := 2) (G := G_law_kept) (kp := [0]) F sc_law_kept (fun cdv A o s H E g hr => (bj_cons (sj_own 2 rfl sc_law_kept.nd rfl (Or.inl rfl) (fv_lst pav_nil))
      (bj_cons (sj_for rfl PassesOwn.never rfl (ij_zip (by rfl) B.b_zip (pav_cons (pv_var 1) (pav_cons (FV.pv (fv_call F_law_lower g (hr.mono (by decide)) (by rfl) m_law_lower k_law_lower b_law_lower pass0 rfl (pav_cons (pv_var 1) pav_nil))) pav_nil))) (tj_tup rfl (tjs_cons (tj_name 3 sc_law_kept.nd rfl (Or.inl rfl)) (tjs_cons (tj_name 4 sc_law_kept.nd rfl (Or.inl rfl)) tjs_nil))) (bj_cons (sj_set 5 rfl sc_law_kept.nd rfl (Or.inl rfl) (pv_if (PWV.p (pwv_and (ptv_cmp (od_ne hr.units) (pv_var 4) (FV.pv (fv_lst pav_nil))) (pwv_and1 (ptv_cmp (od_ne hr.units) (pv_ix (pv_var 3) pv_int (fun _ _ => rfl)) pv_str)))) (pv_var 4) (pv_op od_add (FV.pv (fv_lst (pav_cons pv_int pav_nil))) (pv_var 4))))
      (bj_one (sj_appE 2 (ev_ix (PV.ef (pv_var 5)) (ev_callG F_law_draw g (hr.mono (by decide)) (by rfl) m_law_draw k_law_draw b_law_draw pass0 (aj_slot 0 (aj_val (PV.ef (pv_callB cd_len (by rfl) B.b_len (by decide +kernel) (pav_cons (pv_var 5) pav_nil))) aj_nil))) (fun _ _ => rfl))))))
      (bj_one (sj_retO 2 rfl)))))
theorem sc_has_settings : FnScope N_has_settings ["plan", "value"] (defScope s_has_settings) := ⟨rfl, rfl, rfl, by decide +kernel, rfl, by decide +kernel, by decide +kernel⟩
theorem ok_has_settings {P : Program} {w : World} {K : PySem.W.Frag} {mg : Str → Option Value} {base : Heap} {f : Addr} {fd : FuncData} (F : Fun K "has_settings" "has_settings" s_has_settings f fd) (B : Bn mg) (C : Cn K mg) (H_all_choices : CalK P w K mg base 3 "all_choices" ["plan"] (spF K 1 M_all_choices) []) (H_is_whole_number : CalK P w K mg base 1 "is_whole_number" ["value"] (spV K 1 M_is_whole_number) []) :
    FnG P w K mg base CX0 4 f fd ["plan", "value"] (spV K 2 M_has_settings) := by
  obtain ⟨f_all_choices, fd_all_choices, F_all_choices, m_all_choices, k_all_choices, b_all_choices, kw_all_choices⟩ := H_all_choices.ex
  obtain ⟨f_is_whole_number, fd_is_whole_number, F_is_whole_number, m_is_whole_number, k_is_whole_number, b_is_whole_number, kw_is_whole_number⟩ := H_is_whole_number.ex
  exact okV (P := P) (w := w) (K := K) (mg := mg) (base := base) (N := N_has_settings) (ps := ["plan", "value"]) (st := s_has_settings) (k := 3) (G := G_has_settings) F sc_has_settings (fun cdv A o s H E g hr => (bj_cons (sj_if (PWV.p (pwv_or (ptv_tyNe ty_list (by rfl) B.b_type (by rfl) B.b_list (by decide +kernel) (pv_var 1)) (pwv_or1 (ptv_cmp (od_ne hr.units) (pv_callB cd_len (by rfl) B.b_len (by decide +kernel) (pav_cons (pv_var 1) pav_nil)) (pv_callB cd_len (by rfl) B.b_len (by decide +kernel) (pav_cons (pv_var 0) pav_nil)))))) (bj_one (sj_ret pv_bl)) bj_nil)
      (bj_cons (sj_set 2 rfl sc_has_settings.nd rfl (Or.inl rfl) (FV.pv (fv_call F_all_choices g (hr.mono (by decide)) (by rfl) m_all_choices k_all_choices b_all_choices pass0 rfl (pav_cons (pv_var 0) pav_nil))))
      (bj_one (sj_ret (pv_callB (cd_all rfl) (by rfl) B.b_all (by decide +kernel) (pav_cons (FV.pv (fv_lc (own := [("setting", 3), ("row", 4)]) rfl sc_has_settings.nd (ij_zip (by rfl) B.b_zip (pav_cons (pv_var 1) (pav_cons (pv_var 2) pav_nil))) (blkOk_by (own := [("setting", 3), ("row", 4)]) (N := N_has_settings) (sc := defScope s_has_settings) (by decide +kernel)) rfl (fun _ _ _ _ _ => (tj_tup rfl (tjs_cons (tj_name 3 sc_has_settings.nd rfl (by first | exact Or.inl rfl | exact Or.inr rfl)) (tjs_cons (tj_name 4 sc_has_settings.nd rfl (by first | exact Or.inl rfl | exact Or.inr rfl)) tjs_nil)))) (fun _ _ _ _ _ => ts_nil) (fun _ _ _ _ _ => (pv_and (pv_call F_is_whole_number g (hr.mono (by decide)) (by rfl) m_is_whole_number k_is_whole_number b_is_whole_number pass0 rfl (pav_cons (pv_var 3) pav_nil)) (pv_one (pv_cmp (od_in) (pv_var 3) (pv_var 4))))))) pav_nil)))))))
theorem sc_check_state : FnScope N_check_state ["plan", "state"] (defScope s_check_state) := ⟨rfl, rfl, rfl, by decide +kernel, rfl, by decide +kernel, by decide +kernel⟩
theorem ok_check_state {P : Program} {w : World} {K : PySem.W.Frag} {mg : Str → Option Value} {base : Heap} {f : Addr} {fd : FuncData} (F : Fun K "check_state" "check_state" s_check_state f fd) (B : Bn mg) (C : Cn K mg) (H_has_settings : CalK P w K mg base 4 "has_settings" ["plan", "value"] (spV K 2 M_has_settings) []) :
    FnG P w K mg base CX0 5 f fd ["plan", "state"] (spV K 2 M_check_state) := by
  obtain ⟨f_has_settings, fd_has_settings, F_has_settings, m_has_settings, k_has_settings, b_has_settings, kw_has_settings⟩ := H_has_settings.ex
  exact okV (P := P) (w := w) (K := K) (mg := mg) (base := base) (N := N_check_state) (ps := ["plan", "state"]) (st := s_check_state) (k := 4) (G := G_check_state) F sc_check_state (fun cdv A o s H E g hr => (bj_one (sj_if (ptv_not (PV.t (pv_call F_has_settings g (hr.mono (by decide)) (by rfl) m_has_settings k_has_settings b_has_settings pass0 rfl (pav_cons (pv_var 0) (pav_cons (pv_var 1) pav_nil))))) (bj_one sj_never) bj_nil)))
theorem sc_format_state : FnScope N_format_state ["plan", "state"] (defScope s_format_state) := ⟨rfl, rfl, rfl, by decide +kernel, rfl, by decide +kernel, by decide +kernel⟩
theorem ok_format_state {P : Program} {w : World} {K : PySem.W.Frag} {mg : Str → Option Value} {base : Heap} {f : Addr} {fd : FuncData} (F : Fun K "format_state" "format_state" s_format_state f fd) (B : Bn mg) (C : Cn K mg) (H_check_plan : CalK P w K mg base 4 "check_plan" ["plan"] (spV K 1 M_check_plan) []) (H_check_state : CalK P w K mg base 5 "check_state" ["plan", "state"] (spV K 2 M_check_state) []) (H_written_state : CalK P w K mg base 3 "written_state" ["plan", "state"] (spV K 2 M_written_state) []) :
    FnG P w K mg base CX0 6 f fd ["plan", "state"] (spV K 2 M_format_state) := by
  obtain ⟨f_check_plan, fd_check_plan, F_check_plan, m_check_plan, k_check_plan, b_check_plan, kw_check_plan⟩ := H_check_plan.ex
  obtain ⟨f_check_state, fd_check_state, F_check_state, m_check_state, k_check_state, b_check_state, kw_check_state⟩ := H_check_state.ex
  obtain ⟨f_written_state, fd_written_state, F_written_state, m_written_state, k_written_state, b_written_state, kw_written_state⟩ := H_written_state.ex
  exact okV (P := P) (w := w) (K := K) (mg := mg) (base := base) (N := N_format_state) (ps := ["plan", "state"]) (st := s_format_state) (k := 5) (G := G_format_state) F sc_format_state (fun cdv A o s H E g hr => (bj_cons (sj_dropE (PV.ef (pv_call F_check_plan g (hr.mono (by decide)) (by rfl) m_check_plan k_check_plan b_check_plan pass0 rfl (pav_cons (pv_var 0) pav_nil))))
      (bj_cons (sj_dropE (PV.ef (pv_call F_check_state g (hr.mono (by decide)) (by rfl) m_check_state k_check_state b_check_state pass0 rfl (pav_cons (pv_var 0) (pav_cons (pv_var 1) pav_nil)))))
      (bj_one (sj_ret (pv_call F_written_state g (hr.mono (by decide)) (by rfl) m_written_state k_written_state b_written_state pass0 rfl (pav_cons (pv_var 0) (pav_cons (pv_var 1) pav_nil))))))))
theorem sc_is_section : FnScope N_is_section ["plan", "value"] (defScope s_is_section) := ⟨rfl, rfl, rfl, by decide +kernel, rfl, by decide +kernel, by decide +kernel⟩
theorem ok_is_section {P : Program} {w : World} {K : PySem.W.Frag} {mg : Str → Option Value} {base : Heap} {f : Addr} {fd : FuncData} (F : Fun K "is_section" "is_section" s_is_section f fd) (B : Bn mg) (C : Cn K mg) (H_is_whole_number : CalK P w K mg base 1 "is_whole_number" ["value"] (spV K 1 M_is_whole_number) []) :
    FnG P w K mg base CX0 2 f fd ["plan", "value"] (spV K 2 M_is_section) := by
  obtain ⟨f_is_whole_number, fd_is_whole_number, F_is_whole_number, m_is_whole_number, k_is_whole_number, b_is_whole_number, kw_is_whole_number⟩ := H_is_whole_number.ex
  exact okV (P := P) (w := w) (K := K) (mg := mg) (base := base) (N := N_is_section) (ps := ["plan", "value"]) (st := s_is_section) (k := 1) (G := G_is_section) F sc_is_section (fun cdv A o s H E g hr => (bj_one (sj_ret (pv_and (pv_call F_is_whole_number g (hr.mono (by decide)) (by rfl) m_is_whole_number k_is_whole_number b_is_whole_number pass0 rfl (pav_cons (pv_var 1) pav_nil)) (pv_one (pv_chain (od_le) (od_lt) pv_int (pv_var 1) (pv_callB cd_len (by rfl) B.b_len (by decide +kernel) (pav_cons (pv_var 0) pav_nil))))))))
theorem sc_check_section : FnScope N_check_section ["plan", "section"] (defScope s_check_section) := ⟨rfl, rfl, rfl, by decide +kernel, rfl, by decide +kernel, by decide +kernel⟩
theorem ok_check_section {P : Program} {w : World} {K : PySem.W.Frag} {mg : Str → Option Value} {base : Heap} {f : Addr} {fd : FuncData} (F : Fun K "check_section" "check_section" s_check_section f fd) (B : Bn mg) (C : Cn K mg) (H_is_section : CalK P w K mg base 2 "is_section" ["plan", "value"] (spV K 2 M_is_section) []) :
    FnG P w K mg base CX0 3 f fd ["plan", "section"] (spV K 2 M_check_section) := by
  obtain ⟨f_is_section, fd_is_section, F_is_section, m_is_section, k_is_section, b_is_section, kw_is_section⟩ := H_is_section.ex
  exact okV (P := P) (w := w) (K := K) (mg := mg) (base := base) (N := N_check_section) (ps := ["plan", "section"]) (st := s_check_section) (k := 2) (G := G_check_section) F sc_check_section (fun cdv A o s H E g hr => (bj_one (sj_if (ptv_not (PV.t (pv_call F_is_section g (hr.mono (by decide)) (by rfl) m_is_section k_is_section b_is_section pass0 rfl (pav_cons (pv_var 0) (pav_cons (pv_var 1) pav_nil))))) (bj_one sj_never) bj_nil)))
theorem sc_check_below_page : FnScope N_check_below_page ["plan", "section"] (defScope s_check_below_page) := ⟨rfl, rfl, rfl, by decide +kernel, rfl, by decide +kernel, by decide +kernel⟩
theorem ok_check_below_page {P : Program} {w : World} {K : PySem.W.Frag} {mg : Str → Option Value} {base : Heap} {f : Addr} {fd : FuncData} (F : Fun K "check_below_page" "check_below_page" s_check_below_page f fd) (B : Bn mg) (C : Cn K mg) (H_check_section : CalK P w K mg base 3 "check_section" ["plan", "section"] (spV K 2 M_check_section) []) :
    FnG P w K mg base CX0 4 f fd ["plan", "section"] (spV K 2 M_check_below_page) := by
  obtain ⟨f_check_section, fd_check_section, F_check_section, m_check_section, k_check_section, b_check_section, kw_check_section⟩ := H_check_section.ex
  exact okV (P := P) (w := w) (K := K) (mg := mg) (base := base) (N := N_check_below_page) (ps := ["plan", "section"]) (st := s_check_below_page) (k := 3) (G := G_check_below_page) F sc_check_below_page (fun cdv A o s H E g hr => (bj_cons (sj_dropE (PV.ef (pv_call F_check_section g (hr.mono (by decide)) (by rfl) m_check_section k_check_section b_check_section pass0 rfl (pav_cons (pv_var 0) (pav_cons (pv_var 1) pav_nil)))))
      (bj_one (sj_if (ptv_cmp (od_eq hr.units) (pv_var 1) pv_int) (bj_one sj_never) bj_nil))))
theorem sc_end_of : FnScope N_end_of ["plan", "section"] (defScope s_end_of) := ⟨rfl, rfl, rfl, by decide +kernel, rfl, by decide +kernel, by decide +kernel⟩
theorem ok_end_of {P : Program} {w : World} {K : PySem.W.Frag} {mg : Str → Option Value} {base : Heap} {f : Addr} {fd : FuncData} (F : Fun K "end_of" "end_of" s_end_of f fd) (B : Bn mg) (C : Cn K mg) :
    FnG P w K mg base CX0 1 f fd ["plan", "section"] (spV K 2 M_end_of) := by
  exact okV (P := P) (w := w) (K := K) (mg := mg) (base := base) (N := N_end_of) (ps := ["plan", "section"]) (st := s_end_of) (k := 0) (G := G_end_of) F sc_end_of (fun cdv A o s H E g hr => (bj_cons (sj_set 2 rfl sc_end_of.nd rfl (Or.inl rfl) (pv_op od_add (pv_var 1) pv_int))
      (bj_cons (sj_while PassesOwn.never (PWV.p (pwv_and (ptv_cmp (od_lt) (pv_var 2) (pv_callB cd_len (by rfl) B.b_len (by decide +kernel) (pav_cons (pv_var 0) pav_nil))) (pwv_and1 (ptv_cmp (od_gt) (pv_ix (pv_ix (pv_var 0) (pv_var 2) (fun _ _ => rfl)) pv_int (fun _ _ => rfl)) (pv_ix (pv_ix (pv_var 0) (pv_var 1) (fun _ _ => rfl)) pv_int (fun _ _ => rfl)))))) (bj_one (sj_aug 2 rfl sc_end_of.nd rfl (Or.inl rfl) ip_add (PV.ef pv_int))))
      (bj_one (sj_ret (pv_var 2))))))
theorem sc_plan_without : FnScope N_plan_without ["plan", "section"] (defScope s_plan_without) := ⟨rfl, rfl, rfl, by decide +kernel, rfl, by decide +kernel, by decide +kernel⟩
theorem ok_plan_without {P : Program} {w : World} {K : PySem.W.Frag} {mg : Str → Option Value} {base : Heap} {f : Addr} {fd : FuncData} (F : Fun K "plan_without" "plan_without" s_plan_without f fd) (B : Bn mg) (C : Cn K mg) (H_check_below_page : CalK P w K mg base 4 "check_below_page" ["plan", "section"] (spV K 2 M_check_below_page) []) (H_check_plan : CalK P w K mg base 4 "check_plan" ["plan"] (spV K 1 M_check_plan) []) (H_end_of : CalK P w K mg base 1 "end_of" ["plan", "section"] (spV K 2 M_end_of) []) :
    FnG P w K mg base CX0 5 f fd ["plan", "section"] (spF K 2 M_plan_without) := by
  obtain ⟨f_check_below_page, fd_check_below_page, F_check_below_page, m_check_below_page, k_check_below_page, b_check_below_page, kw_check_below_page⟩ := H_check_below_page.ex
  obtain ⟨f_check_plan, fd_check_plan, F_check_plan, m_check_plan, k_check_plan, b_check_plan, kw_check_plan⟩ := H_check_plan.ex
  obtain ⟨f_end_of, fd_end_of, F_end_of, m_end_of, k_end_of, b_end_of, kw_end_of⟩ := H_end_of.ex
  exact okF (P := P) (w := w) (K := K) (mg := mg) (base := base) (N := N_plan_without) (ps := ["plan", "section"]) (st := s_plan_without) (k := 4) (G := G_plan_without) F sc_plan_without (fun cdv A o s H E g hr => (bj_cons (sj_dropE (PV.ef (pv_call F_check_plan g (hr.mono (by decide)) (by rfl) m_check_plan k_check_plan b_check_plan pass0 rfl (pav_cons (pv_var 0) pav_nil))))
      (bj_cons (sj_dropE (PV.ef (pv_call F_check_below_page g (hr.mono (by decide)) (by rfl) m_check_below_page k_check_below_page b_check_below_page pass0 rfl (pav_cons (pv_var 0) (pav_cons (pv_var 1) pav_nil)))))
      (bj_one (sj_retF (fv_op of_add (FV.pv (fv_sl (pv_var 0) pj_no (pj_some (pv_var 1)))) (FV.pv (fv_sl (pv_var 0) (pj_some (pv_call F_end_of g (hr.mono (by decide)) (by rfl) m_end_of k_end_of b_end_of pass0 rfl (pav_cons (pv_var 0) (pav_cons (pv_var 1) pav_nil)))) pj_no))))))))
theorem sc_depths_and_words : FnScope N_depths_and_words ["text"] (defScope s_depths_and_words) := ⟨rfl, rfl, rfl, by decide +kernel, rfl, by decide +kernel, by decide +kernel⟩
theorem ok_depths_and_words {P : Program} {w : World} {K : PySem.W.Frag} {mg : Str → Option Value} {base : Heap} {f : Addr} {fd : FuncData} (F : Fun K "depths_and_words" "depths_and_words" s_depths_and_words f fd) (B : Bn mg) (C : Cn K mg) :
    FnG P w K mg base CX0 1 f fd ["text"] (spF K 1 M_depths_and_words) := by
  exact okF (P := P) (w := w) (K := K) (mg := mg) (base := base) (N := N_depths_and_words) (ps := ["text"]) (st := s_depths_and_words) (k := 0) (G := G_depths_and_words) F sc_depths_and_words (fun cdv A o s H E g hr => (bj_int 1 rfl sc_depths_and_words.nd rfl (Or.inl rfl)
      (bjt_cons (SJ.tk (sj_own 2 rfl sc_depths_and_words.nd rfl (Or.inl rfl) (fv_lst pav_nil)))
      (bjt_cons (sjt_for rfl PassesOwn.never rfl (ijt_list (FVT.pv (fvt_words (pvt_repl (pvt_repl (PV.tk (pv_var 0))))))) (tj_name 3 sc_depths_and_words.nd rfl (Or.inl rfl)) (bj_one (sj_if (ptv_cmp (od_eq hr.units) (pv_var 3) pv_str) (bj_one (sj_aug 1 rfl sc_depths_and_words.nd rfl (Or.inl rfl) ip_add (PV.ef pv_int))) (bj_one (sj_if (ptv_cmp (od_eq hr.units) (pv_var 3) pv_str) (bj_one (sj_aug 1 rfl sc_depths_and_words.nd rfl (Or.inl rfl) ip_sub (PV.ef pv_int))) (bj_one (sj_app 2 (pv_tup (pav_cons (pv_var 1) (pav_cons (pv_var 3) pav_nil))))))))))
      (BJ.tk (bj_one (sj_retO 2 rfl)))))))
theorem sc_parse_plan : FnScope N_parse_plan ["text"] (defScope s_parse_plan) := ⟨rfl, rfl, rfl, by decide +kernel, rfl, by decide +kernel, by decide +kernel⟩
theorem ok_parse_plan {P : Program} {w : World} {K : PySem.W.Frag} {mg : Str → Option Value} {base : Heap} {f : Addr} {fd : FuncData} (F : Fun K "parse_plan" "parse_plan" s_parse_plan f fd) (B : Bn mg) (C : Cn K mg) (H_check_string : CalK P w K mg base 1 "check_string" ["text"] (spV K 1 M_check_string) []) (H_depths_and_words : CalK P w K mg base 1 "depths_and_words" ["text"] (spF K 1 M_depths_and_words) []) (H_is_plan : CalK P w K mg base 3 "is_plan" ["value"] (spV K 1 M_is_plan) []) (H_written_plan : CalK P w K mg base 1 "written_plan" ["plan"] (spV K 1 M_written_plan) []) :
    FnG P w K mg base CX0 4 f fd ["text"] (spF K 1 M_parse_plan) := by
  obtain ⟨f_check_string, fd_check_string, F_check_string, m_check_string, k_check_string, b_check_string, kw_check_string⟩ := H_check_string.ex
  obtain ⟨f_depths_and_words, fd_depths_and_words, F_depths_and_words, m_depths_and_words, k_depths_and_words, b_depths_and_words, kw_depths_and_words⟩ := H_depths_and_words.ex
  obtain ⟨f_is_plan, fd_is_plan, F_is_plan, m_is_plan, k_is_plan, b_is_plan, kw_is_plan⟩ := H_is_plan.ex
  obtain ⟨f_written_plan, fd_written_plan, F_written_plan, m_written_plan, k_written_plan, b_written_plan, kw_written_plan⟩ := H_written_plan.ex
  exact okF (P := P) (w := w) (K := K) (mg := mg) (base := base) (N := N_parse_plan) (ps := ["text"]) (st := s_parse_plan) (k := 3) (G := G_parse_plan) F sc_parse_plan (fun cdv A o s H E g hr => (bj_cons (sj_dropE (PV.ef (pv_call F_check_string g (hr.mono (by decide)) (by rfl) m_check_string k_check_string b_check_string pass0 rfl (pav_cons (pv_var 0) pav_nil))))
      (bj_cons (sj_own 1 rfl sc_parse_plan.nd rfl (Or.inl rfl) (fv_call F_depths_and_words g (hr.mono (by decide)) (by rfl) m_depths_and_words k_depths_and_words b_depths_and_words pass0 rfl (pav_cons (pv_var 0) pav_nil)))
      (bj_cons (sj_if (PWV.p (pwv_or (ptv_not (PV.t (pv_frz 1 (pv_call F_is_plan g (hr.mono (by decide)) (by rfl) m_is_plan k_is_plan b_is_plan pass0 rfl (pav_cons (pv_var 1) pav_nil))))) (pwv_or1 (ptv_cmp (od_ne hr.units) (pv_frz 1 (pv_call F_written_plan g (hr.mono (by decide)) (by rfl) m_written_plan k_written_plan b_written_plan pass0 rfl (pav_cons (pv_var 1) pav_nil))) (pv_var 0))))) (bj_one sj_never) bj_nil)
      (bj_one (sj_retO 1 rfl))))))
theorem sc_is_state : FnScope N_is_state ["plan", "value"] (defScope s_is_state) := ⟨rfl, rfl, rfl, by decide +kernel, rfl, by decide +kernel, by decide +kernel⟩
theorem ok_is_state {P : Program} {w : World} {K : PySem.W.Frag} {mg : Str → Option Value} {base : Heap} {f : Addr} {fd : FuncData} (F : Fun K "is_state" "is_state" s_is_state f fd) (B : Bn mg) (C : Cn K mg) (H_check_plan : CalK P w K mg base 4 "check_plan" ["plan"] (spV K 1 M_check_plan) []) (H_has_settings : CalK P w K mg base 4 "has_settings" ["plan", "value"] (spV K 2 M_has_settings) []) :
    FnG P w K mg base CX0 5 f fd ["plan", "value"] (spV K 2 M_is_state) := by
  obtain ⟨f_check_plan, fd_check_plan, F_check_plan, m_check_plan, k_check_plan, b_check_plan, kw_check_plan⟩ := H_check_plan.ex
  obtain ⟨f_has_settings, fd_has_settings, F_has_settings, m_has_settings, k_has_settings, b_has_settings, kw_has_settings⟩ := H_has_settings.ex
  exact okV (P := P) (w := w) (K := K) (mg := mg) (base := base) (N := N_is_state) (ps := ["plan", "value"]) (st := s_is_state) (k := 4) (G := G_is_state) F sc_is_state (fun cdv A o s H E g hr => (bj_cons (sj_dropE (PV.ef (pv_call F_check_plan g (hr.mono (by decide)) (by rfl) m_check_plan k_check_plan b_check_plan pass0 rfl (pav_cons (pv_var 0) pav_nil))))
      (bj_one (sj_ret (pv_call F_has_settings g (hr.mono (by decide)) (by rfl) m_has_settings k_has_settings b_has_settings pass0 rfl (pav_cons (pv_var 0) (pav_cons (pv_var 1) pav_nil)))))))
theorem sc_group_of : FnScope N_group_of ["plan", "section"] (defScope s_group_of) := ⟨rfl, rfl, rfl, by decide +kernel, rfl, by decide +kernel, by decide +kernel⟩
theorem ok_group_of {P : Program} {w : World} {K : PySem.W.Frag} {mg : Str → Option Value} {base : Heap} {f : Addr} {fd : FuncData} (F : Fun K "group_of" "group_of" s_group_of f fd) (B : Bn mg) (C : Cn K mg) (H_all_groups : CalK P w K mg base 2 "all_groups" ["plan"] (spV K 1 M_all_groups) []) (H_check_plan : CalK P w K mg base 4 "check_plan" ["plan"] (spV K 1 M_check_plan) []) (H_check_section : CalK P w K mg base 3 "check_section" ["plan", "section"] (spV K 2 M_check_section) []) :
    FnG P w K mg base CX0 5 f fd ["plan", "section"] (spV K 2 M_group_of) := by
  obtain ⟨f_all_groups, fd_all_groups, F_all_groups, m_all_groups, k_all_groups, b_all_groups, kw_all_groups⟩ := H_all_groups.ex
  obtain ⟨f_check_plan, fd_check_plan, F_check_plan, m_check_plan, k_check_plan, b_check_plan, kw_check_plan⟩ := H_check_plan.ex
  obtain ⟨f_check_section, fd_check_section, F_check_section, m_check_section, k_check_section, b_check_section, kw_check_section⟩ := H_check_section.ex
  exact okV (P := P) (w := w) (K := K) (mg := mg) (base := base) (N := N_group_of) (ps := ["plan", "section"]) (st := s_group_of) (k := 4) (G := G_group_of) F sc_group_of (fun cdv A o s H E g hr => (bj_cons (sj_dropE (PV.ef (pv_call F_check_plan g (hr.mono (by decide)) (by rfl) m_check_plan k_check_plan b_check_plan pass0 rfl (pav_cons (pv_var 0) pav_nil))))
      (bj_cons (sj_dropE (PV.ef (pv_call F_check_section g (hr.mono (by decide)) (by rfl) m_check_section k_check_section b_check_section pass0 rfl (pav_cons (pv_var 0) (pav_cons (pv_var 1) pav_nil)))))
      (bj_one (sj_ret (pv_ix (pv_call F_all_groups g (hr.mono (by decide)) (by rfl) m_all_groups k_all_groups b_all_groups pass0 rfl (pav_cons (pv_var 0) pav_nil)) (pv_var 1) (fun _ _ => rfl)))))))
theorem sc_sections_within : FnScope N_sections_within ["plan", "section"] (defScope s_sections_within) := ⟨rfl, rfl, rfl, by decide +kernel, rfl, by decide +kernel, by decide +kernel⟩
theorem ok_sections_within {P : Program} {w : World} {K : PySem.W.Frag} {mg : Str → Option Value} {base : Heap} {f : Addr} {fd : FuncData} (F : Fun K "sections_within" "sections_within" s_sections_within f fd) (B : Bn mg) (C : Cn K mg) (H_check_plan : CalK P w K mg base 4 "check_plan" ["plan"] (spV K 1 M_check_plan) []) (H_check_section : CalK P w K mg base 3 "check_section" ["plan", "section"] (spV K 2 M_check_section) []) (H_end_of : CalK P w K mg base 1 "end_of" ["plan", "section"] (spV K 2 M_end_of) []) :
    FnG P w K mg base CX0 5 f fd ["plan", "section"] (spF K 2 M_sections_within) := by
  obtain ⟨f_check_plan, fd_check_plan, F_check_plan, m_check_plan, k_check_plan, b_check_plan, kw_check_plan⟩ := H_check_plan.ex
  obtain ⟨f_check_section, fd_check_section, F_check_section, m_check_section, k_check_section, b_check_section, kw_check_section⟩ := H_check_section.ex
  obtain ⟨f_end_of, fd_end_of, F_end_of, m_end_of, k_end_of, b_end_of, kw_end_of⟩ := H_end_of.ex
  exact okF (P := P) (w := w) (K := K) (mg := mg) (base := base) (N := N_sections_within) (ps := ["plan", "section"]) (st := s_sections_within) (k := 4) (G := G_sections_within) F sc_sections_within (fun cdv A o s H E g hr => (bj_cons (sj_dropE (PV.ef (pv_call F_check_plan g (hr.mono (by decide)) (by rfl) m_check_plan k_check_plan b_check_plan pass0 rfl (pav_cons (pv_var 0) pav_nil))))
      (bj_cons (sj_dropE (PV.ef (pv_call F_check_section g (hr.mono (by decide)) (by rfl) m_check_section k_check_section b_check_section pass0 rfl (pav_cons (pv_var 0) (pav_cons (pv_var 1) pav_nil)))))
      (bj_one (sj_retF (fv_listRg2 rfl (by rfl) B.b_list (by rfl) B.b_range (pv_op od_add (pv_var 1) pv_int) (pv_call F_end_of g (hr.mono (by decide)) (by rfl) m_end_of k_end_of b_end_of pass0 rfl (pav_cons (pv_var 0) (pav_cons (pv_var 1) pav_nil)))))))))
theorem sc_law_holds : FnScope N_law_holds ["source", "most"] (defScope s_law_holds) := ⟨rfl, rfl, rfl, by decide +kernel, rfl, by decide +kernel, by decide +kernel⟩
theorem ok_law_holds {P : Program} {w : World} {K : PySem.W.Frag} {mg : Str → Option Value} {base : Heap} {f : Addr} {fd : FuncData} (F : Fun K "_law_holds" "_law_holds" s_law_holds f fd) (B : Bn mg) (C : Cn K mg) (H_law_draw : CalK P w K mg base 1 "_law_draw" ["source", "count"] (spE K 2 M_law_draw) []) (H_law_kept : CalK P w K mg base 3 "_law_kept" ["source", "page"] (spEF K 2 M_law_kept) []) (H_law_page : CalK P w K mg base 2 "_law_page" ["source", "most"] (spEF K 2 M_law_page) []) (H_law_read : CalK P w K mg base 6 "_law_read" ["page", "written"] (spV K 2 M_law_read) []) (H_format_plan : CalK P w K mg base 5 "format_plan" ["plan"] (spV K 1 M_format_plan) []) (H_format_state : CalK P w K mg base 6 "format_state" ["plan", "state"] (spV K 2 M_format_state) []) (H_group_of : CalK P w K mg base 5 "group_of" ["plan", "section"] (spV K 2 M_group_of) []) (H_is_state : CalK P w K mg base 5 "is_state" ["plan", "value"] (spV K 2 M_is_state) []) (H_parse_plan : CalK P w K mg base 4 "parse_plan" ["text"] (spF K 1 M_parse_plan) []) (H_plan_without : CalK P w K mg base 5 "plan_without" ["plan", "section"] (spF K 2 M_plan_without) []) (H_sections_within : CalK P w K mg base 5 "sections_within" ["plan", "section"] (spF K 2 M_sections_within) []) :
    FnG P w K mg base CX0 7 f fd ["source", "most"] (spE K 2 M_law_holds) := by
  obtain ⟨f_law_draw, fd_law_draw, F_law_draw, m_law_draw, k_law_draw, b_law_draw, kw_law_draw⟩ := H_law_draw.ex
  obtain ⟨f_law_kept, fd_law_kept, F_law_kept, m_law_kept, k_law_kept, b_law_kept, kw_law_kept⟩ := H_law_kept.ex
  obtain ⟨f_law_page, fd_law_page, F_law_page, m_law_page, k_law_page, b_law_page, kw_law_page⟩ := H_law_page.ex
  obtain ⟨f_law_read, fd_law_read, F_law_read, m_law_read, k_law_read, b_law_read, kw_law_read⟩ := H_law_read.ex
  obtain ⟨f_format_plan, fd_format_plan, F_format_plan, m_format_plan, k_format_plan, b_format_plan, kw_format_plan⟩ := H_format_plan.ex
  obtain ⟨f_format_state, fd_format_state, F_format_state, m_format_state, k_format_state, b_format_state, kw_format_state⟩ := H_format_state.ex
  obtain ⟨f_group_of, fd_group_of, F_group_of, m_group_of, k_group_of, b_group_of, kw_group_of⟩ := H_group_of.ex
  obtain ⟨f_is_state, fd_is_state, F_is_state, m_is_state, k_is_state, b_is_state, kw_is_state⟩ := H_is_state.ex
  obtain ⟨f_parse_plan, fd_parse_plan, F_parse_plan, m_parse_plan, k_parse_plan, b_parse_plan, kw_parse_plan⟩ := H_parse_plan.ex
  obtain ⟨f_plan_without, fd_plan_without, F_plan_without, m_plan_without, k_plan_without, b_plan_without, kw_plan_without⟩ := H_plan_without.ex
  obtain ⟨f_sections_within, fd_sections_within, F_sections_within, m_sections_within, k_sections_within, b_sections_within, kw_sections_within⟩ := H_sections_within.ex
  exact okE (P := P) (w := w) (K := K) (mg := mg) (base := base) (N := N_law_holds) (ps := ["source", "most"]) (st := s_law_holds) (k := 6) (G := G_law_holds) (kp := [0]) F sc_law_holds (fun cdv A o s H E g hr => (bj_cons (sj_asgE rfl (ev_tup (eav_cons (EVF.v (evf_callG F_law_page g (hr.mono (by decide)) (by rfl) m_law_page k_law_page b_law_page pass0 (aj_slot 0 (aj_val (PV.ef (pv_var 1)) aj_nil)))) (eav_cons (EVF.v (evf_callG F_law_page g (hr.mono (by decide)) (by rfl) m_law_page k_law_page b_law_page pass0 (aj_slot 0 (aj_val (PV.ef (pv_var 1)) aj_nil)))) eav_nil))) (tj_tup rfl (tjs_cons (tj_name 8 sc_law_holds.nd rfl (Or.inr rfl)) (tjs_cons (tj_name 9 sc_law_holds.nd rfl (Or.inl rfl)) tjs_nil))))
      (bj_cons (sj_if (PWV.p (pwv_or (ptv_cmp (od_ne hr.units) (pv_cmp (od_eq hr.units) (pv_call F_format_plan g (hr.mono (by decide)) (by rfl) m_format_plan k_format_plan b_format_plan pass0 rfl (pav_cons (pv_var 8) pav_nil)) (pv_call F_format_plan g (hr.mono (by decide)) (by rfl) m_format_plan k_format_plan b_format_plan pass0 rfl (pav_cons (pv_var 9) pav_nil))) (pv_cmp (od_eq hr.units) (pv_var 8) (pv_var 9))) (pwv_or1 (ptv_cmp (od_ne hr.units) (FV.pv (fv_call F_parse_plan g (hr.mono (by decide)) (by rfl) m_parse_plan k_parse_plan b_parse_plan pass0 rfl (pav_cons (pv_call F_format_plan g (hr.mono (by decide)) (by rfl) m_format_plan k_format_plan b_format_plan pass0 rfl (pav_cons (pv_var 9) pav_nil)) pav_nil))) (pv_var 9))))) (bj_one (sj_ret pv_bl)) bj_nil)
      (bj_cons (sj_set 2 rfl sc_law_holds.nd rfl (Or.inl rfl) (pv_call F_format_plan g (hr.mono (by decide)) (by rfl) m_format_plan k_format_plan b_format_plan pass0 rfl (pav_cons (pv_var 8) pav_nil)))
      (bj_cons (sj_lc (i := 3) (own := [("place", 7)]) rfl rfl sc_law_holds.nd rfl rfl (sw_true rfl rfl rfl (by decide +kernel)) (ij_rng1 (by rfl) B.b_range (pav_cons (pv_callB cd_len (by rfl) B.b_len (by decide +kernel) (pav_cons (pv_var 8) pav_nil)) pav_nil)) (blkOk_by (own := [("place", 7)]) (N := N_law_holds) (sc := defScope s_law_holds) (by decide +kernel)) rfl (fun _ _ _ _ _ => (tj_name 7 sc_law_holds.nd rfl (by first | exact Or.inl rfl | exact Or.inr rfl))) (fun _ _ _ _ _ => (ts_one (ptv_cmp (od_ne hr.units) (pv_call F_group_of g (hr.mono (by decide)) (by rfl) m_group_of k_group_of b_group_of pass0 rfl (pav_cons (pv_var 8) (pav_cons (pv_var 7) pav_nil))) (FV.pv (fv_lst pav_nil))))) (fun _ _ _ _ _ => (pv_var 7)))
      (bj_cons (sj_set 4 rfl sc_law_holds.nd rfl (Or.inl rfl) (pv_op od_add (pv_op od_add (pv_scount (pv_var 2) pv_str) (pv_scount (pv_var 2) pv_str)) (pv_scount (pv_var 2) pv_str)))
      (bj_cons (sj_if (PWV.p (pwv_or (ptv_cmp (od_ne hr.units) (pv_var 4) (pv_callB cd_len (by rfl) B.b_len (by decide +kernel) (pav_cons (pv_var 8) pav_nil))) (pwv_or (ptv_cmp (od_ne hr.units) (pv_scount (pv_var 2) pv_str) (pv_frz 3 (pv_callB cd_len (by rfl) B.b_len (by decide +kernel) (pav_cons (pv_var 3) pav_nil)))) (pwv_or1 (ptv_cmp (od_ne hr.units) (pv_scount (pv_var 2) pv_str) (pv_frz 3 (pv_callB cd_len (by rfl) B.b_len (by decide +kernel) (pav_cons (pv_var 3) pav_nil)))))))) (bj_one (sj_ret pv_bl)) bj_nil)
      (bj_cons (sj_if (ptv_cmp (od_ne hr.units) (pv_op od_add (pv_scount (pv_var 2) pv_str) (pv_frz 3 (pv_callB cd_len (by rfl) B.b_len (by decide +kernel) (pav_cons (pv_var 3) pav_nil)))) (pv_op od_sub (pv_callB cd_len (by rfl) B.b_len (by decide +kernel) (pav_cons (pv_var 8) pav_nil)) pv_int)) (bj_one (sj_ret pv_bl)) bj_nil)
      (bj_cons (sj_par (i := 10) (j := 11) rfl rfl sc_law_holds.nd rfl rfl (by decide) rfl rfl (fj_t (EVF.v (evf_callG F_law_kept g (hr.mono (by decide)) (by rfl) m_law_kept k_law_kept b_law_kept pass0 (aj_slot 0 (aj_val (PV.ef (pv_var 8)) aj_nil)))) (fj_t (EVF.v (evf_callG F_law_kept g (hr.mono (by decide)) (by rfl) m_law_kept k_law_kept b_law_kept pass0 (aj_slot 0 (aj_val (PV.ef (pv_var 8)) aj_nil)))) fj_nil)) (by rfl))
      (bj_cons (sj_if (ptv_cmp (od_ne hr.units) (pv_cmp (od_eq hr.units) (pv_call F_format_state g (hr.mono (by decide)) (by rfl) m_format_state k_format_state b_format_state pass0 rfl (pav_cons (pv_var 8) (pav_cons (pv_var 10) pav_nil))) (pv_call F_format_state g (hr.mono (by decide)) (by rfl) m_format_state k_format_state b_format_state pass0 rfl (pav_cons (pv_var 8) (pav_cons (pv_var 11) pav_nil)))) (pv_cmp (od_eq hr.units) (pv_var 10) (pv_var 11))) (bj_one (sj_ret pv_bl)) bj_nil)
      (bj_cons (sj_if (ptv_cmp (od_ne hr.units) (pv_scount (pv_call F_format_state g (hr.mono (by decide)) (by rfl) m_format_state k_format_state b_format_state pass0 rfl (pav_cons (pv_var 8) (pav_cons (pv_var 10) pav_nil))) pv_str) (pv_frz 3 (pv_callB cd_len (by rfl) B.b_len (by decide +kernel) (pav_cons (pv_var 3) pav_nil)))) (bj_one (sj_ret pv_bl)) bj_nil)
      (bj_cons (sj_setE 5 rfl sc_law_holds.nd rfl (Or.inl rfl) (ev_op od_add (EVF.v (evf_lst (eav_cons (ev_tup (eav_cons (PV.ef pv_int) (eav_cons (ev_ix (PV.ef (FV.pv (fv_lst (pav_cons pv_str (pav_cons pv_str (pav_cons pv_str pav_nil)))))) (ev_callG F_law_draw g (hr.mono (by decide)) (by rfl) m_law_draw k_law_draw b_law_draw pass0 (aj_slot 0 (aj_val (PV.ef pv_int) aj_nil))) (fun _ _ => rfl)) eav_nil))) eav_nil))) (PV.ef (FV.pv (fv_sl (pv_var 8) (pj_some pv_int) pj_no)))))
      (bj_cons (sj_set 6 rfl sc_law_holds.nd rfl (Or.inl rfl) (pv_call F_law_read g (hr.mono (by decide)) (by rfl) m_law_read k_law_read b_law_read pass0 rfl (pav_cons (pv_var 5) (pav_cons (pv_call F_format_state g (hr.mono (by decide)) (by rfl) m_format_state k_format_state b_format_state pass0 rfl (pav_cons (pv_var 8) (pav_cons (pv_var 10) pav_nil))) pav_nil))))
      (bj_cons (sj_if (PWV.p (pwv_or (ptv_cmp (od_ne hr.units) (pv_cmp (od_eq hr.units) (pv_var 6) (pv_var 10)) (pv_call F_is_state g (hr.mono (by decide)) (by rfl) m_is_state k_is_state b_is_state pass0 rfl (pav_cons (pv_var 5) (pav_cons (pv_var 10) pav_nil)))) (pwv_or1 (ptv_cmp (od_ne hr.units) (pv_isN (pv_var 6)) (pv_not (pv_call F_is_state g (hr.mono (by decide)) (by rfl) m_is_state k_is_state b_is_state pass0 rfl (pav_cons (pv_var 5) (pav_cons (pv_var 10) pav_nil)))))))) (bj_one (sj_ret pv_bl)) bj_nil)
      (bj_cons (sj_for rfl PassesOwn.never rfl (ij_rng2 (by rfl) B.b_range (pav_cons pv_int (pav_cons (pv_callB cd_len (by rfl) B.b_len (by decide +kernel) (pav_cons (pv_var 8) pav_nil)) pav_nil))) (tj_name 7 sc_law_holds.nd rfl (Or.inl rfl)) (bj_cons (sj_set 12 rfl sc_law_holds.nd rfl (Or.inl rfl) (FV.pv (fv_call F_plan_without g (hr.mono (by decide)) (by rfl) m_plan_without k_plan_without b_plan_without pass0 rfl (pav_cons (pv_var 8) (pav_cons (pv_var 7) pav_nil)))))
      (bj_cons (sj_set 13 rfl sc_law_holds.nd rfl (Or.inl rfl) (pv_op od_add pv_int (pv_callB cd_len (by rfl) B.b_len (by decide +kernel) (pav_cons (FV.pv (fv_call F_sections_within g (hr.mono (by decide)) (by rfl) m_sections_within k_sections_within b_sections_within pass0 rfl (pav_cons (pv_var 8) (pav_cons (pv_var 7) pav_nil)))) pav_nil))))
      (bj_one (sj_if (PWV.p (pwv_or (ptv_cmp (od_ne hr.units) (pv_callB cd_len (by rfl) B.b_len (by decide +kernel) (pav_cons (pv_var 12) pav_nil)) (pv_op od_sub (pv_callB cd_len (by rfl) B.b_len (by decide +kernel) (pav_cons (pv_var 8) pav_nil)) (pv_var 13))) (pwv_or1 (ptv_cmp (od_ne hr.units) (FV.pv (fv_call F_parse_plan g (hr.mono (by decide)) (by rfl) m_parse_plan k_parse_plan b_parse_plan pass0 rfl (pav_cons (pv_call F_format_plan g (hr.mono (by decide)) (by rfl) m_format_plan k_format_plan b_format_plan pass0 rfl (pav_cons (pv_var 12) pav_nil)) pav_nil))) (pv_var 12))))) (bj_one (sj_ret pv_bl)) bj_nil)))))
      (bj_one (sj_ret pv_bl)))))))))))))))))
theorem sc_law_source : FnScope N_law_source ["cell", "k"] (defScope s_law_source) := ⟨rfl, rfl, rfl, by decide +kernel, rfl, by decide +kernel, by decide +kernel⟩
theorem ok_law_source {P : Program} {w : World} {K : PySem.W.Frag} {mg : Str → Option Value} {base : Heap} {f : Addr} {fd : FuncData} (F : Fun K "_law_source" "_law_source" s_law_source f fd) (B : Bn mg) (C : Cn K mg) :
    FnG P w K mg base CX0 1 f fd ["cell", "k"] (spF K 2 M_law_source) := by
  exact okF (P := P) (w := w) (K := K) (mg := mg) (base := base) (N := N_law_source) (ps := ["cell", "k"]) (st := s_law_source) (k := 0) (G := G_law_source) F sc_law_source (fun cdv A o s H E g hr => (bj_one (sj_retF (fv_lst (pav_cons (pv_callB (cd_max rfl) (by rfl) B.b_max (by decide +kernel) (pav_cons pv_int (pav_cons (pv_op od_sub (pv_var 0) (pv_op od_pow pv_int pv_int)) pav_nil))) (pav_cons (pv_op od_add (pv_op od_mul (pv_op od_mod (pv_var 0) (pv_op od_add (pv_op od_pow pv_int pv_int) pv_int)) pv_int) (pv_var 1)) (pav_cons pv_int pav_nil)))))))
theorem sc_law : FnScope N_law ["script"] (defScope s_law) := ⟨rfl, rfl, rfl, by decide +kernel, rfl, by decide +kernel, by decide +kernel⟩
theorem ok_law {P : Program} {w : World} {K : PySem.W.Frag} {mg : Str → Option Value} {base : Heap} {f : Addr} {fd : FuncData} (F : Fun K "law" "law" s_law f fd) (B : Bn mg) (C : Cn K mg) (H_law_holds : CalK P w K mg base 7 "_law_holds" ["source", "most"] (spE K 2 M_law_holds) []) (H_law_source : CalK P w K mg base 1 "_law_source" ["cell", "k"] (spF K 2 M_law_source) []) :
    FnG P w K mg base CX0 8 f fd ["script"] (spV K 1 M_law) := by
  obtain ⟨f_law_holds, fd_law_holds, F_law_holds, m_law_holds, k_law_holds, b_law_holds, kw_law_holds⟩ := H_law_holds.ex
  obtain ⟨f_law_source, fd_law_source, F_law_source, m_law_source, k_law_source, b_law_source, kw_law_source⟩ := H_law_source.ex
  exact okV (P := P) (w := w) (K := K) (mg := mg) (base := base) (N := N_law) (ps := ["script"]) (st := s_law) (k := 7) (G := G_law) F sc_law (fun cdv A o s H E g hr => (bj_cons (sj_for rfl PassesOwn.never rfl (ij_enum (by rfl) B.b_enumerate (pav_cons (FV.pv (fv_sl (pv_op od_add (pv_var 0) (FV.pv (fv_lst (pav_cons pv_int pav_nil)))) pj_no (pj_some (pv_callB (cd_max rfl) (by rfl) B.b_max (by decide +kernel) (pav_cons pv_int (pav_cons (pv_callB (cd_min rfl) (by rfl) B.b_min (by decide +kernel) (pav_cons (pv_callB cd_len (by rfl) B.b_len (by decide +kernel) (pav_cons (pv_var 0) pav_nil)) (pav_cons pv_int pav_nil))) pav_nil)))))) pav_nil)) (tj_tup rfl (tjs_cons (tj_name 1 sc_law.nd rfl (Or.inl rfl)) (tjs_cons (tj_name 2 sc_law.nd rfl (Or.inl rfl)) tjs_nil))) (bj_one (sj_ifE (etv_not (EV.t (ev_callG F_law_holds g (hr.mono (by decide)) (by rfl) m_law_holds k_law_holds b_law_holds pass0 (aj_tmp (FV.ef (fv_call F_law_source g (hr.mono (by decide)) (by rfl) m_law_source k_law_source b_law_source pass0 rfl (pav_cons (pv_var 2) (pav_cons (pv_var 1) pav_nil)))) (aj_val (PV.ef (pv_if (ptv_cmp (od_eq hr.units) (pv_var 0) (FV.pv (fv_lst pav_nil))) pv_int pv_int)) aj_nil))))) (bj_one (sj_ret pv_bl)) bj_nil)))
      (bj_one (sj_ret pv_bl))))

end K14
set_option Elab.async false
set_option linter.all false
set_option maxRecDepth 100000
namespace AC
open PySem PySem.Spec L2 TL
def IsPool (n : Nat) (xs : List D) : Prop := ∃ a b c : Int, xs = [.int a, .int b, .int c] ∧ 0 ≤ a ∧ 0 ≤ b ∧ b < 2147483629 ∧ 0 ≤ c ∧ c ≤ n
theorem IsPool.mono {m n : Nat} {xs : List D} (h : IsPool m xs) (hm : m ≤ n) : IsPool n xs := by
  obtain ⟨a, b, c, h1, h2, h3, h4, h5, h6⟩ := h
  exact ⟨a, b, c, h1, h2, h3, h4, h5, by omega⟩
inductive Kd where
  | one
  | tab
  | step
  deriving DecidableEq
def Kd.nm : Kd → Str
  | .one => "one"
  | .tab => "tab"
  | .step => "step"
abbrev Pl := List (Nat × Kd)
def encR (r : Nat × Kd) : D := .tuple [.int r.1, .str r.2.nm]
def encP (P : Pl) : D := .list (P.map encR)
def encN (xs : List Nat) : List D := xs.map fun (n : Nat) => PyData.int (n : Int)
def dep (P : Pl) (i : Nat) : Nat := (P[i]?.map (·.1)).getD 0
structure WF (P : Pl) : Prop where
  ne : 0 < P.length
  le : P.length ≤ 40
  z : dep P 0 = 0
  up : ∀ i, i + 1 < P.length → 1 ≤ dep P (i + 1) ∧ dep P (i + 1) ≤ dep P i + 1
def parF (P : Pl) (i : Nat) : Nat → Option Nat
  | 0 => none
  | n + 1 => if dep P n < dep P i then some n else parF P i n
def par (P : Pl) (i : Nat) : Option Nat := parF P i i
def lastF (P : Pl) (d : Int) : Nat → Option Nat
  | 0 => none
  | n + 1 => if (dep P n : Int) = d then some n else lastF P d n
theorem dep_get {P : Pl} {i : Nat} (h : i < P.length) : dep P i = (P[i]).1 := by
  unfold dep; rw [List.getElem?_eq_getElem h]; rfl
theorem WF.pos {P : Pl} (w : WF P) {i : Nat} (h0 : 0 < i) (h : i < P.length) : 1 ≤ dep P i := by
  cases i with
  | zero => omega
  | succ i => exact (w.up i h).1
theorem par_last {P : Pl} (w : WF P) {i : Nat} (hi : i < P.length) : ∀ m, m ≤ i → (∀ k, m ≤ k → k < i → dep P i ≤ dep P k) → parF P i m = lastF P ((dep P i : Int) - 1) m
  | 0, _, _ => rfl
  | m + 1, hm, hk => by
    unfold parF lastF
    by_cases c : dep P m < dep P i
    · have e : dep P i ≤ dep P m + 1 := by
        by_cases q : m + 1 = i
        · subst q; exact (w.up m hi).2
        · have h1 := hk (m + 1) (Nat.le_refl _) (by omega)
          have h2 := (w.up m (by omega)).2
          omega
      rw [if_pos c, if_pos (by omega)]
    · rw [if_neg c, if_neg (by omega)]
      exact par_last w hi m (by omega) fun k h1 h2 => by
        by_cases q : k = m
        · subst q; omega
        · exact hk k (by omega) h2
theorem par_eq {P : Pl} (w : WF P) {i : Nat} (hi : i < P.length) : par P i = lastF P ((dep P i : Int) - 1) (i + 1) := by
  have : lastF P ((dep P i : Int) - 1) (i + 1) = lastF P ((dep P i : Int) - 1) i := by
    rw [lastF, if_neg (by omega)]
  rw [this]
  exact par_last w hi i (Nat.le_refl _) fun k h1 h2 => by omega
theorem parF_lt {P : Pl} {i j : Nat} : ∀ {n}, parF P i n = some j → j < n ∧ dep P j < dep P i
  | 0, h => by cases h
  | n + 1, h => by
    unfold parF at h
    split at h
    · rename_i c
      injection h with h; subst h; exact ⟨by omega, c⟩
    · have := parF_lt h; exact ⟨by omega, this.2⟩
def grpN (P : Pl) (n i : Nat) : List Nat := (List.range n).filter fun l => decide (par P l = some i)
def grp (P : Pl) (i : Nat) : List Nat := grpN P P.length i
def grps (P : Pl) : List (List Nat) := (List.range P.length).map (grp P)
def chs (k : Kd) (g : List Nat) : List Nat := if k = .one ∨ g = [] then 0 :: g else g
def chos (P : Pl) : List (List Nat) := (P.zip (grps P)).map fun p => chs p.1.2 p.2
theorem grps_len {P : Pl} : (grps P).length = P.length := by simp [grps]
theorem chos_len {P : Pl} : (chos P).length = P.length := by simp [chos, grps_len]
theorem grps_get {P : Pl} {i : Nat} (h : i < P.length) : (grps P)[i]? = some (grp P i) := by simp [grps, h]
theorem chos_get {P : Pl} {i : Nat} (h : i < P.length) : (chos P)[i]? = some (chs (P[i]).2 (grp P i)) := by
  have e : (P.zip (grps P))[i]? = some (P[i], grp P i) := List.getElem?_zip_eq_some.2 ⟨List.getElem?_eq_getElem h, grps_get h⟩
  unfold chos
  rw [List.getElem?_map, e]; rfl
theorem grpN_mem {P : Pl} {n i l : Nat} (h : l ∈ grpN P n i) : l < n ∧ par P l = some i := by
  unfold grpN at h
  rw [List.mem_filter, List.mem_range] at h
  exact ⟨h.1, of_decide_eq_true h.2⟩
theorem grpN_len {P : Pl} {n i : Nat} : (grpN P n i).length ≤ n := by
  unfold grpN
  exact Nat.le_trans (List.length_filter_le _ _) (by simp)
theorem chs_ne {k : Kd} {g : List Nat} : chs k g ≠ [] := by
  unfold chs
  split
  · simp
  · rename_i h; intro e; exact h (.inr e)
theorem chs_mem {P : Pl} {i x : Nat} {k : Kd} (h : x ∈ chs k (grp P i)) : x < P.length ∨ x = 0 := by
  unfold chs at h
  split at h
  · rcases List.mem_cons.1 h with e | h
    · exact .inr e
    · exact .inl (grpN_mem h).1
  · exact .inl (grpN_mem h).1
theorem chs_len {P : Pl} {i : Nat} {k : Kd} : (chs k (grp P i)).length ≤ P.length + 1 := by
  unfold chs
  have := @grpN_len P P.length i
  split
  · simp only [List.length_cons]; exact Nat.succ_le_succ this
  · exact Nat.le_succ_of_le this
def parD : Option Nat → D
  | none => .none
  | some j => .int (j : Int)
def parsD (P : Pl) (n : Nat) : List D := (List.range n).map fun i => parD (par P i)
theorem parsD_succ {P : Pl} {n : Nat} : parsD P (n + 1) = parsD P n ++ [parD (par P n)] := by simp [parsD, List.range_succ]
theorem parsD_len {P : Pl} {n : Nat} : (parsD P n).length = n := by simp [parsD]
theorem encP_get {P : Pl} {i : Nat} (h : i < P.length) : (P.map encR)[i]? = some (.tuple [.int (dep P i : Nat), .str (P[i]).2.nm]) := by
  rw [List.getElem?_map, List.getElem?_eq_getElem h, dep_get h]; rfl
def gssD (P : Pl) (n : Nat) : List (List D) := (List.range P.length).map fun i => encN (grpN P n i)
theorem gssD_len {P : Pl} {n : Nat} : (gssD P n).length = P.length := by simp [gssD]
theorem gssD_get {P : Pl} {n i : Nat} (h : i < P.length) : (gssD P n)[i]? = some (encN (grpN P n i)) := by simp [gssD, h]
theorem grpN_succ {P : Pl} {n i : Nat} : grpN P (n + 1) i = if par P n = some i then grpN P n i ++ [n] else grpN P n i := by
  unfold grpN
  rw [List.range_succ, List.filter_append]
  by_cases h : par P n = some i
  · simp [h]
  · simp [h]
theorem gssD_none {P : Pl} {n : Nat} (h : par P n = none) : gssD P (n + 1) = gssD P n := by
  unfold gssD
  apply List.map_congr_left
  intro i _
  rw [grpN_succ, if_neg (by rw [h]; intro z; cases z)]
theorem gssD_some {P : Pl} {n j : Nat} (h : par P n = some j) : gssD P (n + 1) = (gssD P n).set j (encN (grpN P n j) ++ [.int (n : Int)]) := by
  apply List.ext_getElem?
  intro i
  by_cases hi : i < P.length
  · rw [gssD_get hi, grpN_succ]
    by_cases q : i = j
    · subst q
      rw [if_pos h, List.getElem?_set_self (by rw [gssD_len]; exact hi)]
      simp [encN]
    · rw [if_neg (by rw [h]; intro z; injection z with z; exact q z.symm), List.getElem?_set_ne (Ne.symm q), gssD_get hi]
  · rw [List.getElem?_eq_none (by rw [gssD_len]; omega), List.getElem?_eq_none (by rw [List.length_set, gssD_len]; omega)]
theorem lcO_all {A : AF} {e : Ev} : ∀ {ds : List D}, (∀ d, ∃ e1, A d e = some e1) → lcO A ds e = some (ds.map fun _ => [])
  | [], _ => rfl
  | d :: ds, h => by
    obtain ⟨e1, h1⟩ := h d
    simp only [lcO, h1, lcO_all h, Option.bind_some, List.map_cons]
theorem encP_ix {P : Pl} {i : Nat} (h : i < P.length) : ixD (.list (P.map encR)) (.int (i : Int)) = some (.tuple [.int (dep P i : Nat), .str (P[i]).2.nm]) := atI_nat (encP_get h)
theorem row0 (x y : D) : ixD (.tuple [x, y]) (.int 0) = some x := atI_nat (j := 0) rfl
theorem row1 (x y : D) : ixD (.tuple [x, y]) (.int 1) = some y := atI_nat (j := 1) rfl
def Kd.isOne : Kd → Bool
  | .one => true
  | _ => false
theorem nm_eq (k : Kd) : eqD (.str k.nm) (.str "one") = some (.bool k.isOne) := by cases k <;> rfl
theorem nm_ne (k : Kd) : neD (.str k.nm) (.str "one") = some (.bool (!k.isOne)) := by cases k <;> rfl
theorem isOne_iff {k : Kd} : k.isOne = true ↔ k = .one := by cases k <;> simp [Kd.isOne]
theorem encN_len {g : List Nat} : (encN g).length = g.length := by simp [encN]
theorem chs_enc {k : Kd} {g : List Nat} : encN (chs k g) = if (k.isOne || g.isEmpty) = true then .int 0 :: encN g else encN g := by
  unfold chs
  by_cases h : k = .one ∨ g = []
  · rw [if_pos h, if_pos (by rcases h with h | h <;> simp [h, isOne_iff])]; rfl
  · rw [if_neg h, if_neg (by
      intro z
      rcases Bool.or_eq_true _ _ |>.mp z with z | z
      · exact h (.inl (isOne_iff.1 z))
      · exact h (.inr (by simpa using z)))]
theorem fine_encN {g : List Nat} {n : Nat} (h : ∀ x ∈ g, x < 10 ^ 40) (hl : g.length ≤ n) : Fine (n * 141) 1 (.list (encN g)) :=
  (fine_list (w := 140) (k := 0) (n := n) (fun x m => by
    unfold encN at m
    obtain ⟨y, hy, rfl⟩ := List.mem_map.1 m
    exact fine_int40 (by have := h y hy; omega)) (by rw [encN_len]; exact hl))
theorem neD_nil {xs : List D} (h : (PyData.list xs).plain = true) : neD (.list xs) (.list []) = some (.bool (!xs.isEmpty)) := by
  have e : eqOk (.list xs) (.list []) = true := eqOk_of h rfl (.inr (by decide))
  refine (if_pos e).trans ?_
  cases xs with
  | nil => rfl
  | cons x xs => rfl
theorem eqD_nil {xs : List D} (h : (PyData.list xs).plain = true) : eqD (.list xs) (.list []) = some (.bool xs.isEmpty) := by
  have e : eqOk (.list xs) (.list []) = true := eqOk_of h rfl (.inr (by decide))
  refine (if_pos e).trans ?_
  cases xs with
  | nil => rfl
  | cons x xs => rfl
theorem eqD_par {o : Option Nat} {i : Nat} : eqD (parD o) (.int (i : Int)) = some (.bool (decide (o = some i))) := by
  cases o with
  | none => rfl
  | some j =>
    rw [parD, eqD_int]
    congr 2
    rw [decide_eq_decide]
    constructor
    · intro h; congr 1; omega
    · intro h; injection h with h; subst h; rfl
theorem parsD_ix {P : Pl} {n i : Nat} (h : i < n) : ixD (.list (parsD P n)) (.int (i : Int)) = some (parD (par P i)) := atI_nat (by simp [parsD, h])
theorem rngD_map (n : Nat) : rngD 0 n = (List.range n).map fun (k : Nat) => PyData.int (k : Int) := by
  unfold rngD
  apply List.map_congr_left
  intro k _
  rw [Int.zero_add]
inductive Picks : List Nat → List (List Nat) → Prop
  | nil : Picks [] []
  | cons {x : Nat} {c : List Nat} {xs : List Nat} {cs : List (List Nat)} (h : x ∈ c) (r : Picks xs cs) : Picks (x :: xs) (c :: cs)
theorem Picks.len : ∀ {xs : List Nat} {cs : List (List Nat)}, Picks xs cs → xs.length = cs.length
  | _, _, .nil => rfl
  | _, _, .cons _ r => by simp [r.len]
def IsSt (P : Pl) (xs : List Nat) : Prop := Picks xs (chos P)
theorem IsSt.len {P : Pl} {xs : List Nat} (h : IsSt P xs) : xs.length = P.length := by rw [Picks.len h, chos_len]
theorem chos_all {P : Pl} (w : WF P) : ∀ c ∈ chos P, c ≠ [] ∧ c.length ≤ 41 ∧ ∀ x ∈ c, x < P.length := by
  intro c m
  unfold chos at m
  obtain ⟨⟨r, g⟩, hm, rfl⟩ := List.mem_map.1 m
  have := (List.of_mem_zip hm).2
  simp only [grps, List.mem_map] at this
  obtain ⟨i, _, rfl⟩ := this
  have h1 := @chs_len P i r.2
  have := w.le
  have := w.ne
  refine ⟨chs_ne, Nat.le_trans h1 (by omega), fun x hx => ?_⟩
  rcases chs_mem hx with h | h <;> omega
theorem Picks.all {xs : List Nat} {cs : List (List Nat)} (h : Picks xs cs) {n : Nat} (hc : ∀ c ∈ cs, ∀ x ∈ c, x < n) : ∀ x ∈ xs, x < n := by
  induction h with
  | nil => intro x m; cases m
  | cons h r ih =>
    intro x m
    rcases List.mem_cons.1 m with e | m
    · subst e; exact hc _ (List.mem_cons_self ..) _ h
    · exact ih (fun c hm => hc c (List.mem_cons_of_mem _ hm)) x m
theorem IsSt.lt {P : Pl} (w : WF P) {xs : List Nat} (h : IsSt P xs) : ∀ x ∈ xs, x < P.length := Picks.all h fun c m => (chos_all w c m).2.2
theorem dep_app {P : Pl} {r : Nat × Kd} {i : Nat} (h : i < P.length) : dep (P ++ [r]) i = dep P i := by
  unfold dep; rw [List.getElem?_append_left h]
theorem dep_end {P : Pl} {r : Nat × Kd} : dep (P ++ [r]) P.length = r.1 := by
  unfold dep; rw [List.getElem?_append_right (Nat.le_refl _)]; simp
theorem WF.app {P : Pl} (w : WF P) {r : Nat × Kd} (h1 : 1 ≤ r.1) (h2 : r.1 ≤ dep P (P.length - 1) + 1) (h3 : P.length < 40) : WF (P ++ [r]) := by
  have ne := w.ne
  refine ⟨by simp, by simp; omega, by rw [dep_app ne]; exact w.z, fun i hi => ?_⟩
  rw [List.length_append, List.length_cons, List.length_nil] at hi
  by_cases q : i + 1 < P.length
  · rw [dep_app q, dep_app (by omega)]; exact w.up i q
  · have e : i + 1 = P.length := by omega
    rw [e, dep_end, dep_app (by omega), show i = P.length - 1 by omega]
    exact ⟨h1, h2⟩
theorem encP_last {P : Pl} (h : 0 < P.length) : ∃ k : Kd, atI (P.map encR) (-1) = some (.tuple [.int (dep P (P.length - 1) : Nat), .str k.nm]) := by
  have h1 := encP_get (P := P) (i := P.length - 1) (by omega)
  refine ⟨(P[P.length - 1]).2, ?_⟩
  have e : ixN (P.map encR).length (-1) = some (P.length - 1) := by
    rw [List.length_map]
    unfold ixN
    rw [if_neg (by decide), if_pos (by omega)]
    congr 1; omega
  unfold atI
  rw [e]; exact h1
theorem gSeq_nx {g h : GF} {e e' : Ev} (h1 : g e = some (.nx e')) : gSeq g h e = h e' := by simp [gSeq, h1]
def stepOk (p : Nat × Nat) : Bool := decide (1 ≤ p.2) && decide (p.2 ≤ p.1 + 1)
def okOne (c : List Nat) (d : D) : Bool := match d with
  | .int n => (encN c).any fun y => PyData.eqv y (.int n)
  | _ => false
def okAll (ps : List (D × List Nat)) : Bool := ps.all fun p => okOne p.2 p.1
def stOk (C : List (List Nat)) (d : D) : Bool := match d with
  | .list xs => decide (xs.length = C.length) && okAll (xs.zip C)
  | _ => false
theorem inD_enc (n : Int) (c : List Nat) : inD (.int n) (.list (encN c)) = some (.bool ((encN c).any fun y => PyData.eqv y (.int n))) := by
  have h : (encN c).all flatD = true := by
    rw [List.all_eq_true]; intro x m
    unfold encN at m
    obtain ⟨y, _, rfl⟩ := List.mem_map.1 m
    rfl
  exact if_pos ⟨rfl, h⟩
theorem zip_enc (xs : List D) (C : List (List Nat)) : zipD xs (C.map fun c => .list (encN c)) = (xs.zip C).map fun p => PyData.tuple [p.1, .list (encN p.2)] := by
  unfold zipD
  rw [show xs.zip (C.map fun c => PyData.list (encN c)) = (xs.zip C).map (Prod.map id fun c => PyData.list (encN c)) by rw [← List.zip_map, List.map_id], List.map_map]
  rfl
theorem fine_nm {k : Nat} (kd : Kd) : Fine 140 k (.str kd.nm) := by
  have : Fine kd.nm.cps.size k (.str kd.nm) := fine_str (by cases kd <;> decide +kernel) (by cases kd <;> decide +kernel)
  exact this.mono (by cases kd <;> decide +kernel) (Nat.le_refl _)
theorem dep_le {P : Pl} (w : WF P) : ∀ i, i < P.length → dep P i ≤ i
  | 0, _ => by rw [w.z]; exact Nat.le_refl _
  | i + 1, h => by have := (w.up i h).2; have := dep_le w i (by omega); omega
theorem par_lt {P : Pl} {i j : Nat} (h : par P i = some j) : j < i := (parF_lt h).1
def opn (P : Pl) (xs : List Nat) (i : Nat) : Bool :=
  match h : par P i with
  | none => true
  | some j => opn P xs j && decide (xs.getD j 0 = i)
termination_by i
decreasing_by exact par_lt h
def shw (P : Pl) (xs : List Nat) : List Nat := (List.range P.length).filter (opn P xs)
def plc (g : List Nat) (x : Nat) : Nat := g.findIdx fun y => decide (y = x)
theorem Picks.get {xs : List Nat} {cs : List (List Nat)} (h : Picks xs cs) : ∀ {i : Nat} {c : List Nat}, cs[i]? = some c → ∃ x, xs[i]? = some x ∧ x ∈ c := by
  induction h with
  | nil => intro i c e; simp at e
  | cons h r ih =>
    intro i c e
    cases i with
    | zero => simp only [List.getElem?_cons_zero, Option.some.injEq] at e; subst e; exact ⟨_, rfl, h⟩
    | succ i => simpa using ih (by simpa using e)
theorem IsSt.in {P : Pl} {xs : List Nat} (h : IsSt P xs) {i : Nat} (hi : i < P.length) : xs.getD i 0 ∈ chs (P[i]).2 (grp P i) := by
  obtain ⟨x, h1, h2⟩ := Picks.get h (chos_get hi)
  rw [List.getD_eq_getElem?_getD, h1]; exact h2
theorem IsSt.step {P : Pl} {xs : List Nat} (h : IsSt P xs) {i : Nat} (hi : i < P.length) (hk : (P[i]).2 ≠ .one) (hg : grp P i ≠ []) : xs.getD i 0 ∈ grp P i := by
  have := h.in hi
  unfold chs at this
  rw [if_neg (fun z => z.elim hk hg)] at this
  exact this
def Kd.isStep : Kd → Bool
  | .step => true
  | _ => false
theorem nm_step (k : Kd) : neD (.str k.nm) (.str "step") = some (.bool (!k.isStep)) := by cases k <;> rfl
def knd (P : Pl) (i : Nat) : Kd := (P[i]?.map (·.2)).getD .one
theorem knd_get {P : Pl} {i : Nat} (h : i < P.length) : (P[i]).2 = knd P i := by unfold knd; rw [List.getElem?_eq_getElem h]; rfl
def near (a b : Nat) : Bool := decide (a < b + 2) && decide (b < a + 2)
def reach (P : Pl) (xs : List Nat) (j i : Nat) : Bool := !(knd P j).isStep || near (plc (grp P j) i) (plc (grp P j) (xs.getD j 0))
def seen (P : Pl) (xs : List Nat) (i : Nat) : Bool := match par P i with
  | none => false
  | some j => opn P xs j && reach P xs j i
def part (k : Kd) (g : List Nat) (x : Nat) : List Nat := if k.isStep = true ∧ g ≠ [] then (g.drop (plc g x - 1)).take (min (plc g x + 2) g.length - (plc g x - 1)) else g
def vis (P : Pl) (xs : List Nat) : List Nat := (List.range P.length).filter (seen P xs)
theorem st_true {P : Pl} {xs : List Nat} (hx : IsSt P xs) : stOk (chos P) (.list (encN xs)) = true := by
  have h1 : ∀ {xs : List Nat} {cs : List (List Nat)}, Picks xs cs → okAll ((encN xs).zip cs) = true := by
    intro xs cs h
    induction h with
    | nil => rfl
    | @cons x c xs cs h r ih =>
      show (okOne c (.int (x : Int)) && okAll ((encN xs).zip cs)) = true
      rw [ih, Bool.and_true]
      show ((encN c).any fun y => PyData.eqv y (.int (x : Int))) = true
      rw [List.any_eq_true]
      refine ⟨.int (x : Int), ?_, by rw [eqv_int]; simp⟩
      unfold encN
      exact List.mem_map.2 ⟨x, h, rfl⟩
  show (decide ((encN xs).length = (chos P).length) && _) = true
  rw [encN_len, hx.len, chos_len, decide_eq_true rfl, Bool.true_and]
  exact h1 hx
def prodL : List (List Nat) → Nat
  | [] => 1
  | c :: cs => c.length * prodL cs
theorem prodL_pos {cs : List (List Nat)} (h : ∀ c ∈ cs, c ≠ []) : 0 < prodL cs := by
  induction cs with
  | nil => exact Nat.one_pos
  | cons c cs ih =>
    exact Nat.mul_pos (List.length_pos_iff.2 (h c (List.mem_cons_self ..))) (ih fun d m => h d (List.mem_cons_of_mem _ m))
def Up (cs : List (List Nat)) : Prop := ∀ c ∈ cs, c ≠ [] ∧ c.Pairwise (· < ·)
theorem Up.tail {c : List Nat} {cs : List (List Nat)} (h : Up (c :: cs)) : Up cs := fun d m => h d (List.mem_cons_of_mem _ m)
theorem Up.pos {cs : List (List Nat)} (h : Up cs) : 0 < prodL cs := prodL_pos fun c m => (h c m).1
theorem Up.nd {c : List Nat} {cs : List (List Nat)} (h : Up (c :: cs)) : c.Nodup := ((h c (List.mem_cons_self ..)).2).imp fun h => Nat.ne_of_lt h
def toI (xs : List Nat) : List Int := xs.map fun (n : Nat) => (n : Int)
theorem Up.drop {cs : List (List Nat)} (h : Up cs) (n : Nat) : Up (cs.drop n) := fun c m => h c (List.mem_of_mem_drop m)
theorem Picks.drop {xs : List Nat} {cs : List (List Nat)} (h : Picks xs cs) : ∀ n, Picks (xs.drop n) (cs.drop n) := by
  induction h with
  | nil => intro n; simpa using Picks.nil
  | @cons x c xs cs h r ih =>
    intro n
    cases n with
    | zero => exact .cons h r
    | succ n => exact ih n
theorem encN_app (a : List Nat) (x : Nat) : encN (a ++ [x]) = encN a ++ [.int (x : Int)] := by unfold encN; rw [List.map_append]; rfl
theorem neD_self {d : D} (h : d.plain = true) (h2 : d.depth ≤ 64) : neD d d = some (.bool false) := by
  refine (if_pos (eqOk_of h h (.inl h2))).trans ?_
  rw [SeqAt.eqv_refl_plain d h]; rfl
theorem dep_take {P : Pl} {k i : Nat} (h : i < k) : dep (P.take k) i = dep P i := by
  unfold dep
  rw [List.getElem?_take_of_lt h]
theorem WF.take {P : Pl} (w : WF P) {k : Nat} (h : 0 < k) : WF (P.take k) where
  ne := by rw [List.length_take]; have := w.ne; omega
  le := by rw [List.length_take]; have := w.le; omega
  z := by rw [dep_take h]; exact w.z
  up := fun i hi => by
    rw [List.length_take] at hi
    rw [dep_take (by omega), dep_take (by omega)]
    exact w.up i (by omega)
def IsBag (n : Nat) (xs : List D) : Prop := ∃ a b c : Int, xs = [.int a, .int b, .int c] ∧ 0 ≤ a ∧ 0 ≤ b ∧ b < 10000000000000000000000000000000000043 ∧ 0 ≤ c ∧ c ≤ n
theorem IsBag.mono {m n : Nat} {xs : List D} (h : IsBag m xs) (hm : m ≤ n) : IsBag n xs := by
  obtain ⟨a, b, c, h1, h2, h3, h4, h5, h6⟩ := h
  exact ⟨a, b, c, h1, h2, h3, h4, h5, by omega⟩
theorem IsBag.flat {n : Nat} {ps : List D} (h : IsBag n ps) : ps.all flatD = true := by
  obtain ⟨a, b, c, rfl, _⟩ := h
  rfl
abbrev kindsD : D := .list [.str "one", .str "tab", .str "step"]
theorem kind_at {r : Int} (h0 : 0 ≤ r) (h1 : r < 3) : ∃ k : Kd, ixD kindsD (.int r) = some (.str k.nm) := by
  obtain ⟨x, h, m⟩ := atI_lt (xs := [PyData.str "one", .str "tab", .str "step"]) h0 h1
  simp only [List.mem_cons, List.not_mem_nil, or_false] at m
  rcases m with rfl | rfl | rfl
  · exact ⟨.one, h⟩
  · exact ⟨.tab, h⟩
  · exact ⟨.step, h⟩
theorem lc_rngN {A : AF} {t : FB} {f : FD} {e : Ev} (T : Nat → Bool) {n : Nat} (h : ∀ k, k < n → ∃ e1, A (.int (k : Int)) e = some e1 ∧ t e1 = some (T k) ∧ (T k = true → f e1 = some (.int (k : Int)))) : lcG A t f (rngD 0 n) e = some (encN ((List.range n).filter T)) := by
  rw [lcG_fil (fun d => match d with | .int l => T l.toNat | _ => false) id]
  · rw [List.map_id, rngD_map, List.filter_map]
    rfl
  · intro d hd
    rw [rngD_map] at hd
    obtain ⟨k, hk, rfl⟩ := List.mem_map.1 hd
    obtain ⟨e1, h1, h2, h3⟩ := h k (List.mem_range.1 hk)
    refine ⟨e1, h1, ?_, ?_⟩
    · show t e1 = some (T (k : Int).toNat)
      rw [Int.toNat_natCast]; exact h2
    · intro q
      have q : T (k : Int).toNat = true := q
      rw [Int.toNat_natCast] at q
      exact h3 q
theorem lc_mapN {A : AF} {t : FB} {f : FD} {e : Ev} (F : Nat → D) {n : Nat} (h : ∀ k, k < n → ∃ e1, A (.int (k : Int)) e = some e1 ∧ t e1 = some true ∧ f e1 = some (F k)) : lcG A t f (rngD 0 n) e = some ((List.range n).map F) := by
  rw [lcG_map (fun d => match d with | .int l => F l.toNat | _ => .none)]
  · rw [rngD_map, List.map_map]
    rfl
  · intro d hd
    rw [rngD_map] at hd
    obtain ⟨k, hk, rfl⟩ := List.mem_map.1 hd
    obtain ⟨e1, h1, h2, h3⟩ := h k (List.mem_range.1 hk)
    refine ⟨e1, h1, h2, ?_⟩
    show f e1 = some (F (k : Int).toNat)
    rw [Int.toNat_natCast]; exact h3
def upL (P : Pl) (i : Nat) : List Nat := (List.range i).filter fun k => decide ((dep P k : Int) = (dep P i : Int) - 1)
theorem grps_ix {P : Pl} {i : Nat} (h : i < P.length) : ixD (.list ((grps P).map fun g => .list (encN g))) (.int (i : Int)) = some (.list (encN (grp P i))) := atI_nat (by rw [List.getElem?_map, grps_get h]; rfl)
def upN (P : Pl) (i : Nat) : Nat := (par P i).getD 0
def IsSrc (n : Nat) (xs : List D) : Prop := ∃ a b c : Int, xs = [.int a, .int b, .int c] ∧ 0 ≤ a ∧ 0 ≤ b ∧ b < 100000000000000000000000000000000000000000000000000000000000000 ∧ 0 ≤ c ∧ c ≤ n
theorem IsSrc.mono {m n : Nat} {xs : List D} (h : IsSrc m xs) (hm : m ≤ n) : IsSrc n xs := by
  obtain ⟨a, b, c, h1, h2, h3, h4, h5, h6⟩ := h
  exact ⟨a, b, c, h1, h2, h3, h4, h5, by omega⟩
theorem IsSrc.flat {n : Nat} {ps : List D} (h : IsSrc n ps) : ps.all flatD = true := by
  obtain ⟨a, b, c, rfl, _⟩ := h
  rfl
theorem lt230 {n : Int} (h : n.natAbs < 2 ^ 230) : n.natAbs < 2 ^ 400 := Nat.lt_trans h (by decide +kernel)
theorem eq_nil {ns : List Int} : eqD (.list (ns.map .int)) (.list []) = some (.bool ns.isEmpty) := by
  have : (PyData.list (ns.map .int)).plain = true := by
    apply PyData.plain_of_canLay0
    simp only [PyData.canLay0]
    exact all_cl fun x m => by obtain ⟨y, _, rfl⟩ := List.mem_map.1 m; rfl
  rw [eqD_nil this]
  cases ns <;> rfl
theorem lastF_succ {P : Pl} {d : Int} {n : Nat} : lastF P d (n + 1) = if (dep P n : Int) = d then some n else lastF P d n := rfl
theorem lastN_ix {g : List Nat} {x : Nat} (h : g.getLast? = some x) : atI (encN g) (-1) = some (.int (x : Int)) := by
  have hg : 0 < g.length := by
    cases g with
    | nil => cases h
    | cons a b => simp
  have e : ixN (encN g).length (-1) = some (g.length - 1) := by
    rw [encN_len]
    unfold ixN
    rw [if_neg (by decide), if_pos (by omega)]
    congr 1; omega
  unfold atI
  rw [e]
  show (encN g)[g.length - 1]? = _
  unfold encN
  rw [List.getElem?_map, ← List.getLast?_eq_getElem?, h]; rfl
theorem encN_isEmpty (g : List Nat) : (encN g).isEmpty = g.isEmpty := by cases g <;> rfl
theorem ne_nil (g : List Nat) : neD (.list (encN g)) (.list []) = some (.bool (!g.isEmpty)) := by
  have : (PyData.list (encN g)).plain = true := PyData.plain_of_canLay0 _ (by
    simp only [PyData.canLay0]
    exact all_cl fun y m => by obtain ⟨z, _, rfl⟩ := List.mem_map.1 m; rfl)
  rw [neD_nil this, encN_isEmpty]
theorem eq_nil2 (g : List Nat) : eqD (.list (encN g)) (.list []) = some (.bool g.isEmpty) := by
  have : (PyData.list (encN g)).plain = true := PyData.plain_of_canLay0 _ (by
    simp only [PyData.canLay0]
    exact all_cl fun y m => by obtain ⟨z, _, rfl⟩ := List.mem_map.1 m; rfl)
  rw [eqD_nil this, encN_isEmpty]
def othersOf (one two : Nat) (works : List Nat) : List Nat := works.filter fun w => decide (w ≠ one ∧ w ≠ two)
def jmpZ (one two : Nat) (works : List Nat) : Int := if one = two ∧ othersOf one two works = [] then 0 else ((othersOf one two works).length : Int) + 1
def plcs (g : List Nat) (one two : Nat) (works : List Nat) : List Nat := plc g one :: plc g two :: works.map (plc g)
def gapZ (a b : Nat) : Int := if a ≤ b then (b : Int) - a else (a : Int) - b
def stpZ (g : List Nat) (one two : Nat) (works : List Nat) : Int := 2 * (lmax (toI (plcs g one two works)) - lmin (toI (plcs g one two works))) - gapZ (plc g one) (plc g two)
def wlenZ (k : Kd) (g : List Nat) (one two : Nat) (works : List Nat) : Int := if k.isStep = true ∧ g ≠ [] then stpZ g one two works else jmpZ one two works
def witF (P : Pl) (xs ys : List Nat) : Nat → Nat → Int
  | 0, _ => 0
  | f + 1, s => wlenZ (knd P s) (grp P s) (xs.getD s 0) (ys.getD s 0) ((grp P s).filter fun c => decide (0 < witF P xs ys f c)) + ((grp P s).map (witF P xs ys f)).sum
def wit (P : Pl) (xs ys : List Nat) (s : Nat) : Int := witF P xs ys P.length s
def tab (F : Nat → D) (n : Nat) : Nat → List (Key × D)
  | 0 => []
  | m + 1 => tab F n m ++ [(Sum.inl ((n - 1 - m : Nat) : Int), F (n - 1 - m))]
def plcT (g : List Nat) (two : Nat) (works : List Nat) : List Int := toI (plc g two :: works.map (plc g))
def insP (P : Pl) (s : Nat) (t : Nat) : Bool :=
  if t = s then true else match h : par P t with
  | none => false
  | some j => insP P s j
termination_by t
decreasing_by exact par_lt h
def clk (P : Pl) (xs : List Nat) (i : Nat) : List Nat := xs.set (upN P i) (if xs.getD (upN P i) 0 = i ∧ knd P (upN P i) = .one then 0 else i)
def cntN (P : Pl) (s : Nat) : Nat := ((List.range P.length).filter (insP P s)).length
theorem cut_digits : ∀ {t t' u u' : List Nat}, (∀ c ∈ t, 48 ≤ c ∧ c ≤ 57) → (∀ c ∈ t', 48 ≤ c ∧ c ≤ 57) → (∀ c, u.head? = some c → c < 48 ∨ 57 < c) → (∀ c, u'.head? = some c → c < 48 ∨ 57 < c) → u ≠ [] → u' ≠ [] → t ++ u = t' ++ u' → t = t' ∧ u = u'
  | [], [], u, u', _, _, _, _, _, _, h => ⟨rfl, h⟩
  | [], c :: t', u, u', _, h2, h3, _, _, _, h => by
    have h : u = c :: (t' ++ u') := h
    have a := h3 c (by rw [h]; rfl)
    have b := h2 c (List.mem_cons_self ..)
    omega
  | c :: t, [], u, u', h1, _, _, h4, _, _, h => by
    have h : c :: (t ++ u) = u' := h
    have a := h4 c (by rw [← h]; rfl)
    have b := h1 c (List.mem_cons_self ..)
    omega
  | c :: t, c' :: t', u, u', h1, h2, h3, h4, h5, h6, h => by
    rw [List.cons_append, List.cons_append] at h
    injection h with e1 e2
    obtain ⟨a, b⟩ := cut_digits (fun x m => h1 x (List.mem_cons_of_mem _ m)) (fun x m => h2 x (List.mem_cons_of_mem _ m)) h3 h4 h5 h6 e2
    exact ⟨by rw [e1, a], b⟩
def far (P : Pl) (x0 x : List Nat) : Int := wit P x0 x 0
def key (x : List Nat) : Key := .inr (PyData.shown (.list (encN x)))
structure Ball (P : Pl) (x0 : List Nat) (k : Int) (S : List (List Nat)) (kvs : List (Key × D)) (later : List (List Nat)) : Prop where
  nd : (S ++ later).Nodup
  st : ∀ x ∈ later, IsSt P x ∧ far P x0 x = k + 1
  lk : ∀ x, IsSt P x → lookD kvs (key x) = if x ∈ S ++ later then some (.int (far P x0 x)) else none
  len : kvs.length = (S ++ later).length
structure Found (P : Pl) (x0 : List Nat) (k : Int) (S : List (List Nat)) : Prop where
  st : ∀ x, x ∈ S ↔ IsSt P x ∧ far P x0 x ≤ k
structure Round (P : Pl) (x0 : List Nat) (k : Int) (S : List (List Nat)) (kvs : List (Key × D)) (wt : List (List Nat)) : Prop where
  f : Found P x0 k S
  nd : S.Nodup
  lk : ∀ x, IsSt P x → lookD kvs (key x) = if x ∈ S then some (.int (far P x0 x)) else none
  len : kvs.length = S.length
  wt : ∀ x, x ∈ wt ↔ IsSt P x ∧ far P x0 x = k
def prs (k : Kd) (g cs : List Nat) (works : List Nat) : List Int := cs.flatMap fun a => cs.map fun b => wlenZ k g a b works
def grtF (P : Pl) : Nat → Nat → Int
  | 0, _ => 0
  | f + 1, s => lmax (prs (knd P s) (grp P s) (chs (knd P s) (grp P s)) ((grp P s).filter fun c => decide (0 < grtF P f c))) + ((grp P s).map (grtF P f)).sum
def grt (P : Pl) (s : Nat) : Int := grtF P P.length s
def chainP (k : Kd) (n : Nat) : Pl := (List.range n).map fun d => (d, k)
def flatP (k : Kd) (n : Nat) : Pl := (0, k) :: List.replicate n (1, Kd.one)
instance (P : Pl) : Decidable (WF P) := decidable_of_iff (0 < P.length ∧ P.length ≤ 40 ∧ dep P 0 = 0 ∧ ∀ i, i < P.length - 1 → 1 ≤ dep P (i + 1) ∧ dep P (i + 1) ≤ dep P i + 1) ⟨fun h => ⟨h.1, h.2.1, h.2.2.1, fun i hi => h.2.2.2 i (by omega)⟩, fun h => ⟨h.ne, h.le, h.z, fun i hi => h.up i (by omega)⟩⟩
theorem v1 : grt (chainP .one 40) 0 = 77 ∧ WF (chainP .one 40) := by decide +kernel
theorem v2 : grt (chainP .tab 40) 0 = 0 ∧ WF (chainP .tab 40) := by decide +kernel
theorem v3 : grt (chainP .step 40) 0 = 0 ∧ WF (chainP .step 40) := by decide +kernel
theorem v4 : grt (flatP .one 39) 0 = 1 ∧ WF (flatP .one 39) := by decide +kernel
def flatV (k : Kd) : Int := match k with | .one => 1 | .tab => 1 | .step => 38
theorem pow38 : powD (.int 10) (.int 38) = some (.int 100000000000000000000000000000000000000) := powD_int (n := 38) (by decide +kernel) (by decide)
theorem pow39 : powD (.int 10) (.int 39) = some (.int 1000000000000000000000000000000000000000) := powD_int (n := 39) (by decide +kernel) (by decide)
theorem kind3 {r : Int} (h0 : 0 ≤ r) (h1 : r < 3) : ∃ k : Kd, ixD (.list [.str "one", .str "tab", .str "step"]) (.int r) = some (.str k.nm) := kind_at h0 h1
theorem last_fil {P : Pl} {d : Int} : ∀ n, ((List.range n).filter fun k => decide ((dep P k : Int) = d)).getLast? = lastF P d n
  | 0 => rfl
  | n + 1 => by
    rw [List.range_succ, List.filter_append, lastF_succ]
    by_cases h : (dep P n : Int) = d
    · rw [if_pos h]
      have : [n].filter (fun k => decide ((dep P k : Int) = d)) = [n] := by simp [h]
      rw [this, List.getLast?_append]; rfl
    · rw [if_neg h]
      have : [n].filter (fun k => decide ((dep P k : Int) = d)) = [] := by simp [h]
      rw [this, List.append_nil, last_fil n]
theorem up_last {P : Pl} (w : WF P) {i : Nat} (hi : i < P.length) : (upL P i).getLast? = par P i := by
  unfold upL
  rw [last_fil, par_eq w hi, lastF_succ, if_neg (by omega)]
theorem enum_rows {P : Pl} : enumD (P.map encR) = (List.range P.length).map fun (i : Nat) => PyData.tuple [.int (i : Int), (P.map encR).getD i .none] := by
  apply List.ext_getElem?
  intro k
  by_cases hk : k < P.length
  · unfold enumD
    rw [List.getElem?_map, List.getElem?_zipIdx, List.getElem?_map, List.getElem?_map, List.getElem?_range hk]
    have : (P.map encR)[k]? = some (encR P[k]) := by rw [List.getElem?_map, List.getElem?_eq_getElem hk]; rfl
    have h2 : (P.map encR).getD k .none = encR P[k] := by rw [List.getD_eq_getElem?_getD, this]; rfl
    have h3 : P[k]? = some P[k] := List.getElem?_eq_getElem hk
    rw [h3]
    show some (PyData.tuple [.int ((0 + k : Nat) : Int), encR P[k]]) = some (PyData.tuple [.int (k : Int), (P.map encR).getD k .none])
    rw [h2, Nat.zero_add]
  · rw [List.getElem?_eq_none (by rw [enumD_len]; simp; omega), List.getElem?_eq_none (by simp; omega)]
theorem row_get {P : Pl} {i : Nat} (hi : i < P.length) : (P.map encR).getD i .none = .tuple [.int (dep P i : Nat), .str (P[i]).2.nm] := by
  rw [List.getD_eq_getElem?_getD, encP_get hi]; rfl
def pc (j x : Nat) : Str := Str.ofString (toString ((j : Nat) : Int)) ++ Str.ofString ":" ++ Str.ofString (toString ((x : Nat) : Int))
theorem tl_pc (j x : Nat) : tl (pc j x) = numL j ++ ([58] ++ numL x) := by
  unfold pc
  rw [tl_append, tl_append, tl_num, tl_num, List.append_assoc]
  have : tl (Str.ofString ":") = [58] := by rw [tl_ofString]; decide
  rw [this]
theorem num_dig (n : Nat) : ∀ c ∈ numL n, 48 ≤ c ∧ c ≤ 57 := fun c hc => by
  have := numL_digits n c hc
  omega
theorem pc_inj {j x j' x' : Nat} (h : pc j x = pc j' x') : j = j' ∧ x = x' := by
  have e := congrArg tl h
  rw [tl_pc, tl_pc] at e
  obtain ⟨a, b⟩ := cut_digits (num_dig j) (num_dig j') (by intro c hc; simp at hc; omega) (by intro c hc; simp at hc; omega) (by simp) (by simp) e
  simp only [List.cons_append, List.nil_append, List.cons.injEq, true_and] at b
  exact ⟨numL_inj a, numL_inj b⟩
theorem no_space : ∀ c, c < 59 → 48 ≤ c → Unicode.isSpace c = false := by decide +kernel
theorem pc_word (j x : Nat) : tl (pc j x) ≠ [] ∧ ∀ c ∈ tl (pc j x), Unicode.isSpace c = false := by
  rw [tl_pc]
  refine ⟨by simp, fun c hc => ?_⟩
  simp only [List.mem_append, List.mem_singleton] at hc
  rcases hc with m | rfl | m
  · have := num_dig j c m; exact no_space c (by omega) (by omega)
  · exact no_space 58 (by omega) (by omega)
  · have := num_dig x c m; exact no_space c (by omega) (by omega)
theorem pc_len {j x : Nat} (hj : j < 100) (hx : x < 100) : (pc j x).length ≤ 5 := by
  rw [len_tl, tl_pc]
  have a := numL_len (k := 2) (by decide) (show j < 10 ^ 2 by omega)
  have b := numL_len (k := 2) (by decide) (show x < 10 ^ 2 by omega)
  simp only [List.length_append, List.length_cons, List.length_nil]
  omega
theorem words_join (ys : List Str) (h : ∀ y ∈ ys, tl y ≠ [] ∧ ∀ c ∈ tl y, Unicode.isSpace c = false) : Txt.words (Txt.join (Str.ofString " ") ys) = ys := by
  refine map_tl_inj ?_
  rw [words_tl, join_eq, tl_join]
  have : tl (Str.ofString " ") = [32] := by rw [tl_ofString]; decide
  rw [this]
  cases hy : ys with
  | nil => rfl
  | cons y r =>
    rw [← hy, wfold_join (ys.map tl) [] (by rw [hy]; simp) (by
      intro p hp
      obtain ⟨z, hz, rfl⟩ := List.mem_map.1 hp
      exact h z hz)]
    rfl
theorem join_len (sep : Str) : ∀ ys : List Str, (tl (Str.join sep ys)).length ≤ (ys.map fun y => y.length + sep.length).sum
  | [] => Nat.zero_le _
  | [y] => by
    show (tl y).length ≤ _
    rw [← len_tl]; simp
  | x :: z :: r => by
    have ih := join_len sep (z :: r)
    show (tl (x ++ sep ++ Str.join sep (z :: r))).length ≤ _
    rw [tl_append, tl_append, List.length_append, List.length_append, ← len_tl, ← len_tl, List.map_cons, List.sum_cons]
    omega
theorem sum_bound {α : Type} (f : α → Nat) (b : Nat) : ∀ l : List α, (∀ x ∈ l, f x ≤ b) → (l.map f).sum ≤ l.length * b
  | [], _ => Nat.zero_le _
  | x :: l, h => by
    rw [List.map_cons, List.sum_cons, List.length_cons, Nat.add_mul, Nat.one_mul]
    have := sum_bound f b l fun y m => h y (List.mem_cons_of_mem _ m)
    have := h x (List.mem_cons_self ..)
    omega
theorem lc_list {A : AF} {t : FB} {f : FD} {e : Ev} {H F : Nat → D} {T : Nat → Bool} : ∀ ks : List Nat, (∀ k ∈ ks, ∃ e1, A (H k) e = some e1 ∧ t e1 = some (T k) ∧ (T k = true → f e1 = some (F k))) → lcG A t f (ks.map H) e = some ((ks.filter T).map F)
  | [], _ => rfl
  | k :: ks, h => by
    obtain ⟨e1, h1, h2, h3⟩ := h k (List.mem_cons_self ..)
    have ih := lc_list ks fun x m => h x (List.mem_cons_of_mem k m)
    cases c : T k with
    | true =>
      rw [c] at h2
      simp only [List.map_cons, lcG, h1, h2, h3 c, ih, Option.bind_some, if_true, List.filter_cons, c]
    | false =>
      rw [c] at h2
      rw [List.filter_cons, c]
      simp only [List.map_cons, lcG, h1, h2, ih, Option.bind_some]
      rfl
def hasG (P : Pl) (i : Nat) : Bool := !(encN (grp P i)).isEmpty
def ns (P : Pl) : List Nat := (List.range P.length).filter (hasG P)
def pcs (P : Pl) (xs : List Nat) : List Str := (ns P).map fun j => pc j (xs.getD j 0)
def stT (P : Pl) (xs : List Nat) : Str := Txt.join (Str.ofString " ") (pcs P xs)
theorem ns_mem {P : Pl} {j : Nat} : j ∈ ns P ↔ j < P.length ∧ grp P j ≠ [] := by
  unfold ns hasG
  rw [List.mem_filter, List.mem_range]
  refine and_congr_right fun _ => ?_
  cases grp P j <;> simp [encN]
theorem enum_gr {P : Pl} : enumD ((grps P).map fun g => .list (encN g)) = (List.range P.length).map fun (i : Nat) => PyData.tuple [.int (i : Int), .list (encN (grp P i))] := by
  have : (grps P).map (fun g => PyData.list (encN g)) = (List.range P.length).map fun i => PyData.list (encN (grp P i)) := by
    unfold grps; rw [List.map_map]; rfl
  rw [this]
  apply List.ext_getElem?
  intro k
  by_cases hk : k < P.length
  · unfold enumD
    rw [List.getElem?_map, List.getElem?_zipIdx, List.getElem?_map, List.getElem?_map, List.getElem?_range hk]
    show some (PyData.tuple [.int ((0 + k : Nat) : Int), .list (encN (grp P k))]) = some (PyData.tuple [.int (k : Int), .list (encN (grp P k))])
    rw [Nat.zero_add]
  · rw [List.getElem?_eq_none (by rw [enumD_len]; simp; omega), List.getElem?_eq_none (by simp; omega)]
theorem log_small {n : Nat} (h : n < 1000) : ((n : Int)).natAbs.log2 < 1920 := by
  have : ((n : Int)).natAbs = n := by omega
  rw [this]
  exact Nat.lt_of_le_of_lt (Nat.log2_le_self n) (by omega)
theorem jFmt_eq {f : FD} {r : FS} {acc y : Str} {e : Ev} {d : D} (h : f e = some d) (h2 : fmtD d = some y) (h3 : (acc ++ y).length ≤ LN) : jFmt f r acc e = r (acc ++ y) e := by
  unfold jFmt
  rw [h]
  show ((fmtD d).bind _) = _
  rw [h2]
  exact if_pos h3
theorem jVal_eq {f : FD} {r : FS} {acc y : Str} {e : Ev} (h : f e = some (.str y)) (h3 : (acc ++ y).length ≤ LN) : jVal f r acc e = r (acc ++ y) e := by
  unfold jVal
  rw [h]
  exact if_pos h3
theorem joined_pc {e : Ev} {f g : FD} {j x : Nat} (h1 : f e = some (.int (j : Int))) (h2 : g e = some (.int (x : Int))) (hj : j < 100) (hx : x < 100) : fJoined (jFmt f (jVal (fC (.str ":")) (jFmt g jNil))) e = some (.str (pc j x)) := by
  have a := pc_len hj hx
  have l1 := log_small (n := j) (by omega)
  have l2 := log_small (n := x) (by omega)
  have e0 : Str.empty ++ Str.ofString (toString ((j : Nat) : Int)) = Str.ofString (toString ((j : Nat) : Int)) := ext_tl (by rw [tl_append]; rfl)
  have lj : (Str.ofString (toString ((j : Nat) : Int))).length ≤ LN := by
    rw [len_tl, tl_num]
    have := numL_len (k := 2) (by decide) (show j < 10 ^ 2 by omega)
    show _ ≤ 16777216; omega
  have lm : (Str.ofString (toString ((j : Nat) : Int)) ++ Str.ofString ":").length ≤ LN := by
    rw [len_tl, tl_append, tl_num, List.length_append]
    have := numL_len (k := 2) (by decide) (show j < 10 ^ 2 by omega)
    have : (tl (Str.ofString ":")).length = 1 := by rw [tl_ofString]; decide
    show _ ≤ 16777216; omega
  have ll : (pc j x).length ≤ LN := by show _ ≤ 16777216; omega
  have f1 : fmtD (.int ((j : Nat) : Int)) = some (Str.ofString (toString ((j : Nat) : Int))) := if_pos l1
  have f2 : fmtD (.int ((x : Nat) : Int)) = some (Str.ofString (toString ((x : Nat) : Int))) := if_pos l2
  have l0 : (Str.empty ++ Str.ofString (toString ((j : Nat) : Int))).length ≤ LN := by rw [e0]; exact lj
  have k := jFmt_eq (r := jVal (fC (.str (Str.ofString ":"))) (jFmt g jNil)) h1 f1 l0
  rw [e0, jVal_eq (e := e) (f := fC (.str (Str.ofString ":"))) rfl lm, jFmt_eq h2 f2 ll] at k
  show (jFmt f (jVal (fC (.str (Str.ofString ":"))) (jFmt g jNil)) Str.empty e).map PyData.str = _
  rw [k]; rfl
theorem st_small {P : Pl} (w : WF P) {xs : List Nat} (hx : IsSt P xs) {i : Nat} (hi : i < P.length) : xs.getD i 0 < 100 ∧ xs.getD i 0 ∈ chs (P[i]).2 (grp P i) ∧ xs[i]? = some (xs.getD i 0) := by
  obtain ⟨x, h1, h2⟩ := hx.get (chos_get hi)
  have e : xs.getD i 0 = x := by rw [List.getD_eq_getElem?_getD, h1]; rfl
  rw [e]
  have := w.le
  exact ⟨by rcases chs_mem h2 with h | h <;> omega, h2, h1⟩
theorem join_ok {P : Pl} (w : WF P) {xs : List Nat} (hx : IsSt P xs) : joinD (.str (Str.ofString " ")) (.list ((pcs P xs).map .str)) = some (.str (stT P xs)) ∧ (stT P xs).length ≤ 1000 := by
  have le := w.le
  have nl : (ns P).length ≤ 40 := by
    unfold ns
    exact Nat.le_trans (List.length_filter_le _ _) (by rw [List.length_range]; omega)
  have pl : (pcs P xs).length = (ns P).length := by unfold pcs; rw [List.length_map]
  have hb : ∀ y ∈ pcs P xs, y.length ≤ 5 := by
    intro y hy
    obtain ⟨j, hj, rfl⟩ := List.mem_map.1 hy
    have := ns_mem.1 hj
    have := (st_small w hx this.1).1
    exact pc_len (by omega) this
  have l1 : (Str.ofString " ").length = 1 := by rw [len_tl, tl_ofString]; decide
  have s1 := sum_bound (fun y : Str => y.length) 5 (pcs P xs) hb
  have s2 := sum_bound (fun y : Str => y.length + (Str.ofString " ").length) 6 (pcs P xs) fun y m => by have := hb y m; rw [l1]; omega
  have s3 := join_len (Str.ofString " ") (pcs P xs)
  refine ⟨?_, ?_⟩
  · unfold joinD
    simp only [strsD_map, Option.bind_some]
    rw [if_pos (by rw [l1]; omega)]; rfl
  · unfold stT
    rw [len_tl, join_eq]; omega
theorem flat_strs (ys : List Str) : (ys.map PyData.str).all flatD = true := by
  rw [List.all_eq_true]; intro x m
  obtain ⟨y, _, rfl⟩ := List.mem_map.1 m
  rfl
theorem eqv_strs (a b : Str) : PyData.eqv (.str a) (.str b) = decide (a = b) := by
  have : PyData.eqv (.str a) (.str b) = (a == b) := by simp [PyData.eqv]
  rw [this, Bool.eq_iff_iff, beq_iff_eq, decide_eq_true_iff]
theorem inD_strs (z : Str) (ys : List Str) : inD (.str z) (.list (ys.map .str)) = some (.bool (decide (z ∈ ys))) := by
  have : inD (.str z) (.list (ys.map .str)) = some (.bool ((ys.map PyData.str).any fun y => PyData.eqv y (.str z))) := if_pos ⟨rfl, flat_strs ys⟩
  rw [this]
  congr 2
  rw [List.any_map]
  by_cases h : z ∈ ys
  · rw [decide_eq_true h]
    exact List.any_eq_true.2 ⟨z, h, by show PyData.eqv (.str z) (.str z) = true; rw [eqv_strs]; simp⟩
  · rw [decide_eq_false h]
    refine List.any_eq_false.2 fun y hy => ?_
    show ¬ PyData.eqv (.str y) (.str z) = true
    rw [eqv_strs]
    intro q
    have q : y = z := by simpa using q
    exact h (q ▸ hy)
theorem pcs_mem {P : Pl} {xs : List Nat} {j s : Nat} : pc j s ∈ pcs P xs ↔ (j ∈ ns P ∧ s = xs.getD j 0) := by
  unfold pcs
  rw [List.mem_map]
  constructor
  · rintro ⟨i, hi, e⟩
    obtain ⟨a, b⟩ := pc_inj e
    subst a; subst b
    exact ⟨hi, rfl⟩
  · rintro ⟨h, e⟩
    exact ⟨j, h, by rw [e]⟩
theorem pick_head {P : Pl} (w : WF P) {xs : List Nat} (hx : IsSt P xs) {j : Nat} (hj : j < P.length) : ((chs (P[j]).2 (grp P j)).filter (fun s => decide (pc j s ∈ pcs P xs)) ++ chs (P[j]).2 (grp P j))[0]? = some (xs.getD j 0) := by
  obtain ⟨_, a2, _⟩ := st_small w hx hj
  by_cases hn : j ∈ ns P
  · have hm : xs.getD j 0 ∈ (chs (P[j]).2 (grp P j)).filter (fun s => decide (pc j s ∈ pcs P xs)) := by
      rw [List.mem_filter, decide_eq_true_eq]
      exact ⟨a2, pcs_mem.2 ⟨hn, rfl⟩⟩
    cases hf : (chs (P[j]).2 (grp P j)).filter (fun s => decide (pc j s ∈ pcs P xs)) with
    | nil => rw [hf] at hm; cases hm
    | cons a r =>
      have ha : a ∈ (chs (P[j]).2 (grp P j)).filter (fun s => decide (pc j s ∈ pcs P xs)) := by rw [hf]; exact List.mem_cons_self ..
      rw [List.mem_filter, decide_eq_true_eq] at ha
      have := (pcs_mem.1 ha.2).2
      rw [List.cons_append, this]; rfl
  · have hg : grp P j = [] := by
      cases hc : grp P j with
      | nil => rfl
      | cons a r => exact (hn (ns_mem.2 ⟨hj, by rw [hc]; simp⟩)).elim
    have hf : (chs (P[j]).2 (grp P j)).filter (fun s => decide (pc j s ∈ pcs P xs)) = [] := by
      rw [List.filter_eq_nil_iff]
      intro s _ q
      exact hn (pcs_mem.1 (of_decide_eq_true q)).1
    rw [hf, List.nil_append]
    rw [hg] at a2 ⊢
    have e : chs (P[j]).2 [] = [0] := by unfold chs; rw [if_pos (.inr rfl)]
    rw [e] at a2 ⊢
    have : xs.getD j 0 = 0 := List.mem_singleton.1 a2
    rw [this]; rfl
theorem ne_str (s : Str) : neD (.str s) (.str s) = some (.bool false) := by
  have : eqOk (PyData.str s) (.str s) = true := rfl
  unfold neD
  rw [if_pos this, eqv_strs, decide_eq_true rfl]; rfl
theorem add_str {a b : Str} (h : (a ++ b).length ≤ LN) : addD (.str a) (.str b) = some (.str (a ++ b)) := if_pos (by rw [len_tl, tl_append, List.length_append] at h; rw [len_tl, len_tl]; exact h)
theorem dep_out {P : Pl} {i : Nat} (h : P.length ≤ i) : dep P i = 0 := by
  unfold dep
  rw [List.getElem?_eq_none h]; rfl
theorem parF_between {P : Pl} {i j : Nat} : ∀ {n}, parF P i n = some j → ∀ k, j < k → k < n → dep P i ≤ dep P k
  | 0, h => by cases h
  | n + 1, h => by
    unfold parF at h
    intro k h1 h2
    split at h
    · injection h with h; omega
    · rename_i hc
      by_cases c : k = n
      · subst c; omega
      · exact parF_between h k h1 (by omega)
theorem parF_is {P : Pl} {i j : Nat} : ∀ {n}, j < n → dep P j < dep P i → (∀ k, j < k → k < n → dep P i ≤ dep P k) → parF P i n = some j
  | 0, h, _, _ => by omega
  | n + 1, h, hd, hb => by
    unfold parF
    by_cases c : j = n
    · subst c
      rw [if_pos hd]
    · have := hb n (by omega) (by omega)
      rw [if_neg (by omega)]
      exact parF_is (by omega) hd fun k h1 h2 => hb k h1 (by omega)
structure EndOf (P : Pl) (q e : Nat) : Prop where
  lt : q < e
  le : e ≤ P.length
  up : dep P e ≤ dep P q
  mid : ∀ i, q < i → i < e → dep P q < dep P i
theorem endOf_ex {P : Pl} {q : Nat} (hq : q < P.length) : ∃ e, EndOf P q e := by
  have key : ∀ m e, P.length - e ≤ m → q < e → e ≤ P.length → (∀ i, q < i → i < e → dep P q < dep P i) → ∃ e', EndOf P q e' := by
    intro m
    induction m with
    | zero =>
      intro e h1 h2 h3 h4
      have : e = P.length := by omega
      subst this
      exact ⟨_, h2, Nat.le_refl _, by rw [dep_out (Nat.le_refl _)]; exact Nat.zero_le _, h4⟩
    | succ m ih =>
      intro e h1 h2 h3 h4
      by_cases c : dep P e ≤ dep P q
      · exact ⟨e, h2, h3, c, h4⟩
      · by_cases c2 : e = P.length
        · rw [c2, dep_out (Nat.le_refl _)] at c; omega
        · refine ih (e + 1) (by omega) (by omega) (by omega) fun i a b => ?_
          by_cases c3 : i = e
          · subst c3; omega
          · exact h4 i a (by omega)
  exact key P.length (q + 1) (by omega) (by omega) (by omega) fun i a b => by omega
def kd (P : Pl) (p q : Nat) : List Nat := (List.range' q (P.length - q)).filter fun i => decide (par P i = some p)
theorem range_cut {a b n : Nat} (h1 : a ≤ b) (h2 : b ≤ n) : List.range' a (n - a) = List.range' a (b - a) ++ List.range' b (n - b) := by
  have := @List.range'_append a (b - a) (n - b) 1
  rw [Nat.one_mul] at this
  rw [show a + (b - a) = b by omega, show b - a + (n - b) = n - a by omega] at this
  exact this.symm
theorem mem_r {a b i : Nat} (h : i ∈ List.range' a (b - a)) : a ≤ i ∧ i < b := by
  have := List.mem_range'_1.1 h
  omega
theorem kd_none {P : Pl} {p a b : Nat} (h : ∀ i, a ≤ i → i < b → par P i ≠ some p) : (List.range' a (b - a)).filter (fun i => decide (par P i = some p)) = [] := by
  rw [List.filter_eq_nil_iff]
  intro i hi
  have := mem_r hi
  have := h i this.1 this.2
  simp [this]
theorem grp_kd {P : Pl} {p : Nat} (hp : p < P.length) : grp P p = kd P p (p + 1) := by
  unfold grp grpN kd
  have : List.range P.length = List.range' 0 (P.length - 0) := by rw [List.range_eq_range']; rfl
  rw [this, range_cut (Nat.zero_le (p + 1)) (by omega : p + 1 ≤ P.length), List.filter_append]
  rw [kd_none (p := p) (a := 0) (b := p + 1) fun i _ h2 z => by have := par_lt z; omega]
  rfl
theorem kd_stop {P : Pl} {p q : Nat} (hpq : p < q) (hd : dep P q ≤ dep P p) : kd P p q = [] := by
  unfold kd
  refine kd_none fun i h1 h2 z => ?_
  have a := (parF_lt z).2
  by_cases c : i = q
  · subst c; omega
  · have := parF_between z q hpq (by omega)
    omega
theorem kd_go {P : Pl} {p q e : Nat} (hpq : p < q) (hq : q < P.length) (hd : dep P q = dep P p + 1) (hb : ∀ i, p < i → i < q → dep P p < dep P i) (he : EndOf P q e) : kd P p q = q :: kd P p e := by
  have h1 := he.lt
  have h2 := he.le
  have hpar : par P q = some p := parF_is hpq (by omega) fun k a b => by have := hb k a b; omega
  unfold kd
  rw [range_cut (Nat.le_of_lt h1) h2, List.filter_append]
  have e1 : List.range' q (e - q) = q :: List.range' (q + 1) (e - (q + 1)) := by
    rw [show e - q = (e - (q + 1)) + 1 by omega]; rfl
  rw [e1, List.filter_cons, hpar]
  simp only [decide_true, if_true]
  rw [kd_none (p := p) (a := q + 1) (b := e) fun i a b z => ?_]
  · rfl
  · have a1 := parF_between z q hpq (by omega)
    have a2 := he.mid i (by omega) b
    omega
def sepL (P : Pl) (i : Nat) : List Nat := if dep P i < dep P (i + 1) then [40] else List.replicate (dep P i - dep P (i + 1)) 41 ++ [32]
def cellL (P : Pl) (i : Nat) : List Nat := tl (knd P i).nm ++ sepL P i
def cells (P : Pl) (a b : Nat) : List Nat := (List.range' a (b - a)).flatMap (cellL P)
theorem cells_self {P : Pl} {a : Nat} : cells P a a = [] := by unfold cells; rw [Nat.sub_self]; rfl
theorem cells_cut {P : Pl} {a b c : Nat} (h1 : a ≤ b) (h2 : b ≤ c) : cells P a c = cells P a b ++ cells P b c := by
  unfold cells
  rw [range_cut h1 h2, List.flatMap_append]
theorem cells_one {P : Pl} {a : Nat} : cells P a (a + 1) = cellL P a := by
  unfold cells
  rw [show a + 1 - a = 1 by omega]
  show cellL P a ++ [] = _
  rw [List.append_nil]
def Wf (P : Pl) : Nat → Nat → Str
  | 0, _ => Str.empty
  | k + 1, p => if grp P p = [] then (knd P p).nm else (knd P p).nm ++ Str.ofString "(" ++ Txt.join (Str.ofString " ") ((grp P p).map (Wf P k)) ++ Str.ofString ")"
theorem tl_sp : tl (Str.ofString " ") = [32] := by rw [tl_ofString]; decide
theorem tl_op : tl (Str.ofString "(") = [40] := by rw [tl_ofString]; decide
theorem tl_cl : tl (Str.ofString ")") = [41] := by rw [tl_ofString]; decide
def jw (P : Pl) (k d : Nat) (l : List Nat) : List Nat := if l = [] then [] else joinL [32] (l.map fun q => tl (Wf P k q)) ++ (List.replicate d 41 ++ [32])
theorem kids_text {P : Pl} (w : WF P) {k p e : Nat} (hp : p < P.length) (he : EndOf P p e)
    (ih : ∀ q, p < q → q < P.length → ∀ e', EndOf P q e' → cells P q e' = tl (Wf P k q) ++ (List.replicate (dep P q - dep P e') 41 ++ [32])) :
    ∀ m q, P.length - q ≤ m → p < q → q ≤ e → dep P q ≤ dep P p + 1 → (∀ i, p < i → i < q → dep P p < dep P i) → (kd P p q = [] → q = e) ∧ cells P q e = jw P k (dep P p + 1 - dep P e) (kd P p q) := by
  have hup := he.up
  have hle := he.le
  intro m
  induction m with
  | zero =>
    intro q h1 h2 h3 h4 h5
    have hq : q = e := by omega
    subst hq
    rw [kd_stop h2 hup, cells_self]
    exact ⟨fun _ => rfl, rfl⟩
  | succ m ihm =>
    intro q h1 h2 h3 h4 h5
    by_cases c : dep P q ≤ dep P p
    · have hq : q = e := by
        by_cases z : q < e
        · have := he.mid q h2 z; omega
        · omega
      subst hq
      rw [kd_stop h2 hup, cells_self]
      exact ⟨fun _ => rfl, rfl⟩
    · have hd : dep P q = dep P p + 1 := by omega
      have hqe : q < e := by
        by_cases z : q = e
        · subst z; omega
        · omega
      have hqn : q < P.length := by omega
      obtain ⟨e', he'⟩ := endOf_ex (P := P) hqn
      have l1 := he'.lt
      have l2 := he'.up
      have l3 : e' ≤ e := by
        by_cases z : e < e'
        · have := he'.mid e hqe z; omega
        · omega
      have hb : ∀ i, p < i → i < e' → dep P p < dep P i := fun i a b => by
        by_cases z1 : i < q
        · exact h5 i a z1
        · by_cases z2 : i = q
          · subst z2; omega
          · have := he'.mid i (by omega) b; omega
      rw [kd_go h2 hqn hd h5 he']
      obtain ⟨i1, i2⟩ := ihm e' (by omega) (by omega) l3 (by omega) hb
      refine ⟨fun z => (by cases z), ?_⟩
      rw [cells_cut (Nat.le_of_lt l1) l3, ih q h2 hqn e' he', i2]
      by_cases z : kd P p e' = []
      · have := i1 z
        subst this
        rw [z]
        unfold jw
        rw [if_pos rfl, if_neg (by simp), List.append_nil, hd]
        rfl
      · have hd2 : dep P e' = dep P p + 1 := by
          by_cases y : dep P e' ≤ dep P p
          · exact (z (kd_stop (by omega) y)).elim
          · omega
        unfold jw
        rw [if_neg z, if_neg (by simp), hd, hd2, Nat.sub_self]
        cases hk : kd P p e' with
        | nil => exact (z hk).elim
        | cons b r =>
          show tl (Wf P k q) ++ ([] ++ [32]) ++ (joinL [32] (tl (Wf P k b) :: r.map fun q => tl (Wf P k q)) ++ _) = tl (Wf P k q) ++ ([32] ++ joinL [32] (tl (Wf P k b) :: r.map fun q => tl (Wf P k q))) ++ _
          simp only [List.nil_append, List.append_assoc]
theorem row_text {P : Pl} (w : WF P) : ∀ k p, p < P.length → P.length - p ≤ k → ∀ e, EndOf P p e → cells P p e = tl (Wf P k p) ++ (List.replicate (dep P p - dep P e) 41 ++ [32]) := by
  intro k
  induction k with
  | zero => intro p h1 h2; omega
  | succ k ih =>
    intro p hp hk e he
    have h1 := he.lt
    have h2 := he.le
    have hup := he.up
    rw [cells_cut (b := p + 1) (Nat.le_succ p) h1, cells_one]
    by_cases hd : dep P (p + 1) ≤ dep P p
    · have hg : grp P p = [] := by rw [grp_kd hp]; exact kd_stop (Nat.lt_succ_self p) hd
      have : e = p + 1 := by
        by_cases z : p + 1 < e
        · have := he.mid (p + 1) (by omega) z; omega
        · omega
      subst this
      rw [cells_self, List.append_nil]
      unfold cellL sepL Wf
      rw [if_neg (by omega), if_pos hg]
    · have hn : p + 1 < P.length := by
        by_cases z : p + 1 < P.length
        · exact z
        · rw [dep_out (by omega : P.length ≤ p + 1)] at hd; omega
      have hd1 : dep P (p + 1) = dep P p + 1 := by have := (w.up p hn).2; omega
      obtain ⟨e', he'⟩ := endOf_ex (P := P) hn
      have hg : grp P p = (p + 1) :: kd P p e' := by
        rw [grp_kd hp]; exact kd_go (Nat.lt_succ_self p) hn hd1 (fun i a b => by omega) he'
      obtain ⟨_, j⟩ := kids_text w (k := k) hp he (fun q a b e2 he2 => ih q b (by omega) e2 he2) P.length (p + 1) (by omega) (Nat.lt_succ_self p) h1 (by omega) (fun i a b => by omega)
      rw [j, ← grp_kd hp]
      unfold cellL sepL Wf jw
      rw [if_pos (by omega), if_neg (by rw [hg]; simp), if_neg (by rw [hg]; simp)]
      rw [tl_append, tl_append, tl_append, tl_op, tl_cl, join_eq, tl_join, tl_sp, List.map_map]
      have er : dep P p + 1 - dep P e = (dep P p - dep P e) + 1 := by omega
      rw [er, List.replicate_succ]
      simp only [List.append_assoc, List.cons_append, List.nil_append]
      rfl
theorem rstrip_sp {x : Str} {a b : List Nat} {c : Nat} (h : tl x = a ++ [32]) (h2 : a = b ++ [c]) (hc : Unicode.isSpace c = false) : tl (Txt.rstrip x) = a := by
  have hs : Unicode.isSpace 32 = true := by decide +kernel
  have e0 : stripLo Unicode.isSpace false x = 0 := rfl
  have el : x.length = a.length + 1 := by rw [len_tl, h, List.length_append]; rfl
  have e1 : stripHi Unicode.isSpace true x 0 = a.length := by
    unfold stripHi
    rw [if_pos rfl, List.drop_zero]
    have : (tl x).reverse = 32 :: c :: b.reverse := by rw [h, h2]; simp
    show x.length - ((tl x).reverse.takeWhile Unicode.isSpace).length = _
    rw [this, List.takeWhile_cons, if_pos hs, List.takeWhile_cons, if_neg (by rw [hc]; decide), el]
    rfl
  have e2 : stripSame Unicode.isSpace false true x = false := by
    unfold stripSame
    rw [e0, e1, el]
    have : (a.length == a.length + 1) = false := by rw [beq_eq_false_iff_ne]; omega
    rw [this, Bool.and_false]
  unfold Txt.rstrip Txt.stripBy
  rw [e2]
  show tl (stripped Unicode.isSpace false true x) = a
  unfold stripped
  rw [e0, e1]
  show (PySem.Builtin.Str.strSub x 0 a.length).cps.toList = a
  rw [StrLaws.strSub_toList]
  show ((tl x).drop 0).take (a.length - 0) = a
  rw [List.drop_zero, Nat.sub_zero, h, List.take_left]
def plT (P : Pl) : Str := Wf P 41 0
theorem nm_last (k : Kd) : ∃ b c, tl k.nm = b ++ [c] ∧ Unicode.isSpace c = false := by
  cases k
  · exact ⟨[111, 110], 101, by decide +kernel, by decide +kernel⟩
  · exact ⟨[116, 97], 98, by decide +kernel, by decide +kernel⟩
  · exact ⟨[115, 116, 101], 112, by decide +kernel, by decide +kernel⟩
theorem nm_len (k : Kd) : (tl k.nm).length ≤ 4 := by cases k <;> decide +kernel
theorem plT_last {P : Pl} : ∃ b c, tl (plT P) = b ++ [c] ∧ Unicode.isSpace c = false := by
  unfold plT Wf
  split
  · exact nm_last _
  · rw [tl_append, tl_cl]
    exact ⟨_, 41, rfl, by decide +kernel⟩
theorem whole_end {P : Pl} (w : WF P) : EndOf P 0 P.length where
  lt := w.ne
  le := Nat.le_refl _
  up := by rw [dep_out (Nat.le_refl _)]; exact Nat.zero_le _
  mid := fun i a b => by
    rw [w.z]
    obtain ⟨j, rfl⟩ : ∃ j, i = j + 1 := ⟨i - 1, by omega⟩
    exact (w.up j b).1
theorem whole_text {P : Pl} (w : WF P) : cells P 0 P.length = tl (plT P) ++ [32] := by
  have := row_text w 41 0 w.ne (by have := w.le; omega) _ (whole_end w)
  rw [this, w.z, dep_out (Nat.le_refl _)]; rfl
theorem cell_len {P : Pl} (w : WF P) {i : Nat} (hi : i < P.length) : (cellL P i).length ≤ 50 := by
  have a := nm_len (knd P i)
  have b := dep_le w i hi
  have := w.le
  unfold cellL sepL
  rw [List.length_append]
  split
  · have : ([40] : List Nat).length = 1 := rfl
    omega
  · rw [List.length_append, List.length_replicate]
    have : ([32] : List Nat).length = 1 := rfl
    omega
theorem cells_len {P : Pl} (w : WF P) {a b : Nat} (hb : b ≤ P.length) : (cells P a b).length ≤ 2000 := by
  unfold cells
  rw [List.length_flatMap]
  have := sum_bound (fun i => (cellL P i).length) 50 (List.range' a (b - a)) fun i m => by
    have := mem_r m
    exact cell_len w (by omega)
  rw [List.length_range'] at this
  have := w.le
  have h2 : (b - a) * 50 ≤ 40 * 50 := Nat.mul_le_mul_right _ (by omega)
  omega
theorem Wf_len {P : Pl} (w : WF P) {k p : Nat} (hp : p < P.length) (hk : P.length - p ≤ k) : (Wf P k p).length ≤ 2000 := by
  obtain ⟨e, he⟩ := endOf_ex hp
  have h := congrArg List.length (row_text w k p hp hk e he)
  have := cells_len w (a := p) he.le
  rw [List.length_append] at h
  rw [len_tl]
  omega
theorem plT_len {P : Pl} (w : WF P) : (plT P).length ≤ 2000 := Wf_len w w.ne (by have := w.le; omega)
theorem nm_ix {P : Pl} {i : Nat} (hi : i < P.length) : knd P i = (P[i]).2 := by
  unfold knd
  rw [List.getElem?_eq_getElem hi]; rfl
theorem row_of {P : Pl} {i : Nat} (hi : i < P.length) : ixD (encP P) (.int (i : Int)) = some (.tuple [.int (dep P i : Nat), .str (knd P i).nm]) := by
  show ixD (.list (P.map encR)) _ = _
  rw [encP_ix hi, nm_ix hi]
def sepS (P : Pl) (i : Nat) : Str := if dep P i < dep P (i + 1) then Str.ofString "(" else Txt.mul (Str.ofString ")") ((dep P i : Int) - (dep P (i + 1) : Int)) ++ Str.ofString " "
theorem flat_one (n c : Nat) : (List.replicate n [c]).flatten = List.replicate n c := by
  induction n with
  | zero => rfl
  | succ n ih => rw [List.replicate_succ, List.flatten_cons, ih]; rfl
theorem sep_tl {P : Pl} {i : Nat} : tl (sepS P i) = sepL P i := by
  unfold sepS sepL
  split
  · exact tl_op
  · rw [tl_append, mul_tl, tl_cl, tl_sp, flat_one]
    congr 2
    omega
def prts (P : Pl) (n : Nat) : List Str := (List.range n).flatMap fun i => [(knd P i).nm, sepS P i]
theorem prts_succ {P : Pl} {n : Nat} : prts P (n + 1) = prts P n ++ [(knd P n).nm, sepS P n] := by
  unfold prts
  rw [List.range_succ, List.flatMap_append]; rfl
theorem prts_len {P : Pl} : ∀ n, (prts P n).length = 2 * n
  | 0 => rfl
  | n + 1 => by rw [prts_succ, List.length_append, prts_len n]; show _ + 2 = _; omega
theorem joinL_nil : ∀ ls : List (List Nat), joinL [] ls = ls.flatten
  | [] => rfl
  | [a] => by show a = a ++ []; rw [List.append_nil]
  | a :: b :: r => by
    show a ++ ([] ++ joinL [] (b :: r)) = _
    rw [List.nil_append, joinL_nil (b :: r)]; rfl
theorem prts_tl {P : Pl} : ∀ n, ((prts P n).map tl).flatten = cells P 0 n
  | 0 => by rw [cells_self]; rfl
  | n + 1 => by
    rw [prts_succ, List.map_append, List.flatten_append, prts_tl n, cells_cut (Nat.zero_le n) (Nat.le_succ n), cells_one]
    show _ ++ (tl (knd P n).nm ++ (tl (sepS P n) ++ [])) = _
    rw [List.append_nil, sep_tl]; rfl
theorem next_deps {P : Pl} (h : 0 < P.length) : (encN (P.map (·.1))).drop 1 ++ [.int 0] = (List.range P.length).map fun i => PyData.int ((dep P (i + 1) : Nat) : Int) := by
  have l1 : ((encN (P.map (·.1))).drop 1).length = P.length - 1 := by rw [List.length_drop, encN_len, List.length_map]
  apply List.ext_getElem?
  intro k
  by_cases hk : k < P.length
  · rw [List.getElem?_map, List.getElem?_range hk]
    by_cases h2 : k + 1 < P.length
    · rw [List.getElem?_append_left (by omega), List.getElem?_drop]
      unfold encN
      rw [List.getElem?_map, List.getElem?_map, Nat.add_comm 1 k, List.getElem?_eq_getElem h2]
      show some (PyData.int ((P[k + 1]).1 : Int)) = some (PyData.int ((dep P (k + 1) : Nat) : Int))
      rw [dep_get h2]
    · rw [List.getElem?_append_right (by omega), l1, show k - (P.length - 1) = 0 by omega]
      show some (PyData.int 0) = some (PyData.int ((dep P (k + 1) : Nat) : Int))
      rw [dep_out (by omega : P.length ≤ k + 1)]; rfl
  · rw [List.getElem?_eq_none (by rw [List.length_append, l1]; simp; omega), List.getElem?_eq_none (by simp; omega)]
theorem zip_rows {P : Pl} (h : 0 < P.length) : zipD (P.map encR) ((encN (P.map (·.1))).drop 1 ++ [.int 0]) = (List.range P.length).map fun i => PyData.tuple [.tuple [.int (dep P i : Nat), .str (knd P i).nm], .int ((dep P (i + 1) : Nat) : Int)] := by
  rw [next_deps h]
  have : P.map encR = (List.range P.length).map fun i => PyData.tuple [.int (dep P i : Nat), .str (knd P i).nm] := by
    apply List.ext_getElem?
    intro k
    by_cases hk : k < P.length
    · rw [encP_get hk, List.getElem?_map, List.getElem?_range hk]
      show _ = some (PyData.tuple [.int (dep P k : Nat), .str (knd P k).nm])
      rw [nm_ix hk]
    · rw [List.getElem?_eq_none (by simp; omega), List.getElem?_eq_none (by simp; omega)]
  rw [this]
  unfold zipD
  rw [List.zip_map, List.map_map]
  have : ∀ l : List Nat, l.zip l = l.map fun i => (i, i) := by
    intro l
    induction l with
    | nil => rfl
    | cons x l ih => rw [List.zip_cons_cons, ih]; rfl
  rw [this, List.map_map]
  rfl
def ex (c : Nat) : List Nat := if c = 40 then [32, 40, 32] else if c = 41 then [32, 41, 32] else [c]
theorem repl_one (a : Nat) (z : List Nat) : ∀ l : List Nat, StrLaws.replL [a] z l = l.flatMap fun c => if c = a then z else [c]
  | [] => StrLaws.replL_nil
  | c :: r => by
    have ih := repl_one a z r
    by_cases h : c = a
    · subst h
      rw [StrLaws.replL_hit (by simp) (by simp)]
      show z ++ StrLaws.replL [c] z r = _
      rw [ih, List.flatMap_cons, if_pos rfl]
    · rw [StrLaws.replL_miss (by simp [h]), ih, List.flatMap_cons, if_neg h]
      rfl
theorem repl_both (x : Str) : tl (Txt.replace (Txt.replace x (Str.ofString "(") (Str.ofString " ( ")) (Str.ofString ")") (Str.ofString " ) ")) = (tl x).flatMap ex := by
  have h1 : 1 ≤ (Str.ofString "(").length := by rw [len_tl, tl_op]; decide
  have h2 : 1 ≤ (Str.ofString ")").length := by rw [len_tl, tl_cl]; decide
  have a1 : (Str.ofString " ( ").cps.toList = [32, 40, 32] := by decide +kernel
  have a2 : (Str.ofString " ) ").cps.toList = [32, 41, 32] := by decide +kernel
  have a3 : (Str.ofString "(").cps.toList = [40] := tl_op
  have a4 : (Str.ofString ")").cps.toList = [41] := tl_cl
  show (Txt.replace _ _ _).cps.toList = _
  rw [StrLaws.replace_list h2, StrLaws.replace_list h1, a1, a2, a3, a4, repl_one, repl_one, List.flatMap_assoc]
  congr 1
  funext c
  unfold ex
  by_cases c1 : c = 40
  · rw [if_pos c1, if_pos c1]; rfl
  · rw [if_neg c1, if_neg c1]
    by_cases c2 : c = 41
    · subst c2; rfl
    · rw [if_neg c2]
      show (if c = 41 then [32, 41, 32] else [c]) ++ [] = [c]
      rw [if_neg c2]; rfl
theorem ex_len (l : List Nat) : (l.flatMap ex).length ≤ 3 * l.length := by
  rw [List.length_flatMap]
  have := sum_bound (fun c => (ex c).length) 3 l fun c _ => by
    unfold ex
    split
    · decide
    · split <;> simp
  omega
theorem sp_step (st : List (List Nat) × List Nat) : wstep st 32 = if st.2 = [] then st else (st.1 ++ [st.2], []) := by
  have hs : Unicode.isSpace 32 = true := by decide +kernel
  exact if_pos hs
theorem wfin_sp (l : List Nat) (st : List (List Nat) × List Nat) : wfin ((l ++ [32]).foldl wstep st) = wfin (l.foldl wstep st) := by
  rw [List.foldl_append]
  show wfin (wstep (l.foldl wstep st) 32) = _
  rw [sp_step]
  generalize l.foldl wstep st = s
  obtain ⟨ws, u⟩ := s
  by_cases h : u = []
  · rw [if_pos h]
  · rw [if_neg h]
    unfold wfin
    rw [if_pos rfl, if_neg h]
theorem no_sp {c : Nat} (h : 33 ≤ c ∧ c ≤ 126) (ws : List (List Nat)) (u : List Nat) : wstep (ws, u) c = (ws, u ++ [c]) := by
  have : Unicode.isSpace c = false := PySem.W.KWk.nosp h.1 h.2
  exact if_neg (by rw [this]; decide)
theorem par_fold (c : Nat) (h : 33 ≤ c ∧ c ≤ 126) (ws : List (List Nat)) : [32, c, 32].foldl wstep (ws, []) = (ws ++ [[c]], []) := by
  show wstep (wstep (wstep (ws, []) 32) c) 32 = _
  have s0 : wstep (ws, []) 32 = (ws, []) := by rw [sp_step]; exact if_pos rfl
  rw [s0, no_sp h, sp_step]
  exact if_neg (by simp)
theorem close_fold : ∀ (k : Nat) (ws : List (List Nat)), ((List.replicate k 41).flatMap ex).foldl wstep (ws, []) = (ws ++ List.replicate k [41], [])
  | 0, ws => by show (ws, []) = (ws ++ [], []); rw [List.append_nil]
  | k + 1, ws => by
    rw [List.replicate_succ, List.flatMap_cons, List.foldl_append]
    have : ex 41 = [32, 41, 32] := rfl
    rw [this, par_fold 41 (by decide), close_fold k, List.append_assoc, List.replicate_succ]
    rfl
theorem sp_head (r : List Nat) (ws : List (List Nat)) {u : List Nat} (hu : u ≠ []) : (32 :: r).foldl wstep (ws, u) = (32 :: r).foldl wstep (ws ++ [u], []) := by
  rw [List.foldl_cons, List.foldl_cons, sp_step, sp_step, if_neg hu, if_pos rfl]
def toks (P : Pl) (i : Nat) : List (List Nat) := tl (knd P i).nm :: (if dep P i < dep P (i + 1) then [[40]] else List.replicate (dep P i - dep P (i + 1)) [41])
theorem nm_ex (k : Kd) : (tl k.nm).flatMap ex = tl k.nm ∧ tl k.nm ≠ [] ∧ ∀ c ∈ tl k.nm, Unicode.isSpace c = false := by
  cases k <;> decide +kernel
theorem cell_fold (P : Pl) (i : Nat) (ws : List (List Nat)) : ((cellL P i).flatMap ex).foldl wstep (ws, []) = (ws ++ toks P i, []) := by
  obtain ⟨n1, n2, n3⟩ := nm_ex (knd P i)
  unfold cellL toks
  rw [List.flatMap_append, List.foldl_append, n1, wfold_word _ _ _ n3, List.nil_append]
  unfold sepL
  by_cases c : dep P i < dep P (i + 1)
  · rw [if_pos c, if_pos c]
    show [32, 40, 32].foldl wstep (ws, tl (knd P i).nm) = _
    rw [sp_head _ _ n2, par_fold 40 (by decide), List.append_assoc]
    rfl
  · rw [if_neg c, if_neg c]
    generalize dep P i - dep P (i + 1) = k
    have e : ∃ r, (List.replicate k 41 ++ [32]).flatMap ex = 32 :: r := by
      cases k with
      | zero => exact ⟨[], rfl⟩
      | succ k => exact ⟨_, rfl⟩
    obtain ⟨r, hr⟩ := e
    rw [hr, sp_head _ _ n2, ← hr, List.flatMap_append, List.foldl_append, close_fold, List.append_assoc]
    show wstep (ws ++ (tl (knd P i).nm :: List.replicate k [41]), []) 32 = _
    rw [sp_step, if_pos rfl]
theorem cells_fold (P : Pl) : ∀ n, ((cells P 0 n).flatMap ex).foldl wstep ([], []) = ((List.range n).flatMap (toks P), [])
  | 0 => by rw [cells_self]; rfl
  | n + 1 => by
    rw [cells_cut (Nat.zero_le n) (Nat.le_succ n), cells_one, List.flatMap_append, List.foldl_append, cells_fold P n, cell_fold, List.range_succ, List.flatMap_append]
    congr 2
    show toks P n = toks P n ++ []
    rw [List.append_nil]
def tokS (P : Pl) (i : Nat) : List Str := (knd P i).nm :: (if dep P i < dep P (i + 1) then [Str.ofString "("] else List.replicate (dep P i - dep P (i + 1)) (Str.ofString ")"))
theorem tokS_tl (P : Pl) (i : Nat) : (tokS P i).map tl = toks P i := by
  unfold tokS toks
  rw [List.map_cons]
  congr 1
  split
  · show [tl _] = _
    rw [tl_op]
  · rw [List.map_replicate, tl_cl]
theorem plan_words {P : Pl} (w : WF P) : Txt.words (Txt.replace (Txt.replace (plT P) (Str.ofString "(") (Str.ofString " ( ")) (Str.ofString ")") (Str.ofString " ) ")) = (List.range P.length).flatMap (tokS P) := by
  refine map_tl_inj ?_
  rw [words_tl, repl_both, ← wfin_sp]
  have e : (tl (plT P)).flatMap ex ++ [32] = (cells P 0 P.length).flatMap ex := by
    rw [whole_text w, List.flatMap_append]; rfl
  rw [e, cells_fold]
  show wfin ((List.range P.length).flatMap (toks P), []) = _
  unfold wfin
  rw [if_pos rfl, List.map_flatMap]
  show (List.range P.length).flatMap (toks P) = _
  congr 1
  funext i
  exact (tokS_tl P i).symm
theorem for_step {A : AF} {g : GF} {x : D} {xs : List D} {e e2 e3 : Ev} (h1 : A x e = some e2) (h2 : g e2 = some (.nx e3)) : forG A g (x :: xs) e = forG A g xs e3 := by
  simp only [forG, h1, h2, Option.bind_some]
theorem nm_eqs (k : Kd) : eqD (.str k.nm) (.str (Str.ofString "(")) = some (.bool false) ∧ eqD (.str k.nm) (.str (Str.ofString ")")) = some (.bool false) := by
  cases k <;> exact ⟨rfl, rfl⟩
theorem rng_nat (a b : Nat) : rngD ((a : Int) + 1) ((b : Int) - ((a : Int) + 1)).toNat = encN (List.range' (a + 1) (b - (a + 1))) := by
  have e : ((b : Int) - ((a : Int) + 1)).toNat = b - (a + 1) := by omega
  rw [e]
  unfold rngD encN
  rw [List.range'_eq_map_range, List.map_map]
  apply List.map_congr_left
  intro k _
  show PyData.int ((a : Int) + 1 + (k : Nat)) = PyData.int ((a + 1 + k : Nat) : Int)
  have : (a : Int) + 1 + (k : Nat) = ((a + 1 + k : Nat) : Int) := by omega
  rw [this]
theorem rows_fine {P : Pl} (w : WF P) {l : Pl} (hl : l.length ≤ 40) (h : ∀ r ∈ l, r ∈ P) : Fine 12000 2 (.list (l.map encR)) := by
  have le := w.le
  refine (fine_list (w := 282) (k := 1) (n := 40) (fun x m => ?_) (by rw [List.length_map]; exact hl)).mono (by decide) (by decide)
  obtain ⟨r, hr, rfl⟩ := List.mem_map.1 m
  obtain ⟨i, hi, e⟩ := List.mem_iff_getElem.1 (h r hr)
  have h1 := dep_le w i hi
  rw [dep_get hi, e] at h1
  refine (fine_tup (w := 140) (k := 0) (n := 2) (fun y m => ?_) (by simp)).mono (by decide) (by decide)
  simp only [List.mem_cons, List.not_mem_nil, or_false] at m
  rcases m with rfl | rfl
  · exact fine_int40 (by omega)
  · exact fine_nm _
structure At (W P : Pl) (f : Nat) : Prop where
  pos : 1 ≤ f
  len : f + P.length ≤ W.length
  deps : ∀ i, i < P.length → dep W (f + i) = dep P i + 1
  kinds : ∀ i, i < P.length → knd W (f + i) = knd P i
  nxt : dep W (f + P.length) ≤ 1
def sh1 (P : Pl) : Pl := P.map fun r => (r.1 + 1, r.2)
def big (k : Kd) (P Q : Pl) : Pl := (0, k) :: (sh1 P ++ sh1 Q)
def wayF (P : Pl) (a : Nat) : Nat → Nat → Nat
  | 0, _ => 0
  | n + 1, s => match par P s with
    | none => 0
    | some p => if p = a then s else wayF P a n p
def way (P : Pl) (a s : Nat) : Nat := wayF P a s s
def aft (k : Kd) (x s : Nat) : Nat := if x = s ∧ k = .one then 0 else s
def okM (P : Pl) (a s x : Nat) : Bool := if way P a s = 0 then true else if way P a s = s then decide (s ∈ part (knd P a) (grp P a) x) else decide (x = way P a s)
def nxM (P : Pl) (a s x : Nat) : Nat := if way P a s ≠ 0 ∧ way P a s = s then aft (knd P a) x s else x
abbrev Mv := List (Nat × Nat)
structure MvOk (P : Pl) (a : Nat) (mv : Mv) : Prop where
  sub : (mv.map (·.1)).Sublist (chs (knd P a) (grp P a))
  img : ∀ p ∈ mv, p.2 ∈ chs (knd P a) (grp P a)
theorem MvOk.len {P : Pl} {a : Nat} {mv : Mv} (h : MvOk P a mv) : mv.length ≤ (chs (knd P a) (grp P a)).length := by
  have := h.sub.length_le
  rwa [List.length_map] at this
def isCl (P : Pl) (cs : List Nat) : Prop := ∀ s ∈ cs, 0 < s ∧ s < P.length
def stpM (P : Pl) (a s x : Nat) : Option Nat := if okM P a s x = true then some (nxM P a s x) else none
def run (P : Pl) (a : Nat) : List Nat → Nat → Option Nat
  | [], x => some x
  | s :: ss, x => (stpM P a s x).bind (run P a ss)
def Same1 (P Q : Pl) : Prop := Q.map (·.1) = P.map (·.1)
theorem Same1.len {P Q : Pl} (h : Same1 P Q) : Q.length = P.length := by
  have := congrArg List.length h
  simpa using this
theorem Same1.dep {P Q : Pl} (h : Same1 P Q) (i : Nat) : dep Q i = dep P i := by
  have e : ∀ R : Pl, AC.dep R i = ((R.map (·.1))[i]?).getD 0 := fun R => by
    unfold AC.dep; rw [List.getElem?_map]
  rw [e, e, h]
theorem Same1.parF {P Q : Pl} (h : Same1 P Q) (i : Nat) : ∀ n, parF Q i n = parF P i n
  | 0 => rfl
  | n + 1 => by
    unfold AC.parF
    rw [h.dep, h.dep, Same1.parF h i n]
theorem Same1.par {P Q : Pl} (h : Same1 P Q) (i : Nat) : par Q i = par P i := h.parF i i
theorem Same1.grp {P Q : Pl} (h : Same1 P Q) (i : Nat) : grp Q i = grp P i := by
  unfold AC.grp grpN
  rw [h.len]
  simp only [h.par]
theorem Same1.cl {P Q : Pl} (h : Same1 P Q) {cs : List Nat} (hc : isCl P cs) : isCl Q cs := fun s m => by rw [h.len]; exact hc s m
theorem Same1.trans {P Q R : Pl} (h : Same1 P Q) (g : Same1 Q R) : Same1 P R := Eq.trans g h
def isS (s : SV) : Prop := s = .un ∨ ∃ d, s = .sh d
def Gd (P : Pl) (n : Nat) (cs : List Nat) : Prop := isCl P cs ∧ cs.length ≤ n
theorem Gd.app {P : Pl} {m n : Nat} {a b : List Nat} (h1 : isCl P a) (h2 : isCl P b) : isCl P (a ++ b) := fun s q => (List.mem_append.1 q).elim (h1 s) (h2 s)
def isT (s : SV) : Prop := isS s ∨ ∃ ys, s = .ow ys ∧ ys.all flatD = true
theorem eqvs_encN : ∀ (a b : List Nat), PyData.eqvAll (encN a) (encN b) = decide (a = b)
  | [], [] => rfl
  | [], _ :: _ => rfl
  | _ :: _, [] => rfl
  | x :: a, y :: b => by
    show (PyData.eqv (.int (x : Int)) (.int (y : Int)) && PyData.eqvAll (encN a) (encN b)) = _
    rw [eqv_int, eqvs_encN a b, ← Bool.decide_and, decide_eq_decide, List.cons.injEq]
    constructor <;> rintro ⟨h1, h2⟩ <;> exact ⟨by omega, h2⟩
theorem eqD_st {P : Pl} (w : WF P) {a b : List Nat} (ha : IsSt P a) (hb : IsSt P b) : eqD (.list (encN a)) (.list (encN b)) = some (.bool (decide (a = b))) := by
  have big : ∀ {x : List Nat}, IsSt P x → ∀ y ∈ x, y < 10 ^ 40 := fun {x} h y m => by
    have := h.lt w y m
    have := w.le
    omega
  have f1 := fine_encN (n := a.length) (big ha) (Nat.le_refl _)
  have f2 := fine_encN (n := b.length) (big hb) (Nat.le_refl _)
  refine (if_pos (eqOk_of f1.plain f2.plain (.inl (Nat.le_trans f1.dp (by decide))))).trans ?_
  show some (PyData.bool (PyData.eqvAll (encN a) (encN b))) = _
  rw [eqvs_encN]
def Ps (k : Nat) (n : Int) : Prop := 0 < n ∧ n.natAbs < 2 ^ k
theorem Ps.mono {j k : Nat} {n : Int} (h : Ps j n) (hk : j ≤ k) : Ps k n := ⟨h.1, Nat.lt_of_lt_of_le h.2 (Nat.pow_le_pow_right (by decide) hk)⟩
def rr (p q lo hi y : Nat) : Nat :=
  if y < min p q then (if y = lo then 1 else 2)
  else if max p q < y then (if y = hi then 1 else 2)
  else 1 + (if y = min p q ∧ lo < y then 1 else 0) + (if y = max p q ∧ y < hi then 1 else 0)
def mN (g : List Nat) (b : Nat) (W : List Nat) : Nat := (lmin (plcT g b W)).toNat
def MN (g : List Nat) (b : Nat) (W : List Nat) : Nat := (lmax (plcT g b W)).toNat
def dd (P : Pl) (xs ys : List Nat) (c : Nat) : Nat := (wit P xs ys c).toNat
def two (wa wb : List Nat) : List (List Nat) := if wa.length < wb.length then [wa] else if wb.length < wa.length then [wb] else if wa = wb then [wa] else [wa, wb]
def IsB31 (n : Nat) (xs : List D) : Prop := ∃ a b c : Int, xs = [.int a, .int b, .int c] ∧ 0 ≤ a ∧ 0 ≤ b ∧ b < 1000000000000000000000000000000000000000063 ∧ 0 ≤ c ∧ c ≤ n
theorem IsB31.mono {m n : Nat} {xs : List D} (h : IsB31 m xs) (hm : m ≤ n) : IsB31 n xs := by
  obtain ⟨a, b, c, h1, h2, h3, h4, h5, h6⟩ := h
  exact ⟨a, b, c, h1, h2, h3, h4, h5, by omega⟩
def mk (x : List Nat) : D := .str (PyData.shown (.list (encN x)))
structure Ring (P : Pl) (ys : List Nat) (k : Nat) (kvs : List (Key × D)) : Prop where
  lk : ∀ x, IsSt P x → lookD kvs (key x) = if wit P x ys 0 ≤ (k : Int) then some (.int (wit P x ys 0)) else none
  len : kvs.length ≤ 1 + 200 * k
theorem eqD_self {d : D} (h : d.plain = true) (h2 : d.depth ≤ 64) : eqD d d = some (.bool true) := by
  have := neD_self h h2
  unfold neD at this
  unfold eqD
  split at this
  · rename_i q
    rw [if_pos q]
    injection this with this
    injection this with this
    have : PyData.eqv d d = true := by simpa using this
    rw [this]
  · cases this
def wd (P : Pl) (S : List Nat) (c : Nat) : Bool := S.any fun t => insP P c t
def parN (P : Pl) (S : List Nat) (s : Nat) : List Nat := (grp P s).filter (wd P S)
def stTT (s lo hi : Int) : Int := (hi - lo) + (if hi - s < s - lo then hi - s else s - lo)
def tlN (k : Kd) (g : List Nat) (b : Nat) (W : List Nat) : Int := if k.isStep = true ∧ g ≠ [] then stTT (plc g b : Nat) (mN g b W : Nat) (MN g b W : Nat) else ((W.filter fun c => !decide (c = b)).length : Int)
def ownT (P : Pl) (x S : List Nat) (s : Nat) : Int := tlN (knd P s) (grp P s) (x.getD s 0) (parN P S s)
def tcF (P : Pl) (x S : List Nat) : Nat → Nat → Int
  | 0, _ => 0
  | f + 1, s => ownT P x S s + ((parN P S s).map (tcF P x S f)).sum
def tc (P : Pl) (x S : List Nat) (s : Nat) : Int := tcF P x S (P.length - s) s
def lfT (P : Pl) (x S : List Nat) : List Nat := S.filter fun t => !decide (t ∈ shw P x)
def pD (q : List Nat × List Nat) : D := .tuple [.list (encN q.1), .list (encN q.2)]
def keyT (q : List Nat × List Nat) : Key := .inr (PyData.shown (pD q))
structure Pr (P : Pl) (q : List Nat × List Nat) : Prop where
  st : IsSt P q.1
  len : q.2.length ≤ 40
  lt : ∀ t ∈ q.2, t < P.length
def mvT (P : Pl) (q : List Nat × List Nat) (h : Nat) : List Nat × List Nat := (clk P q.1 h, lfT P (clk P q.1 h) q.2)
def dT (P : Pl) (q : List Nat × List Nat) : Int := tc P q.1 q.2 0
structure Wn (P : Pl) (S : List Nat) : Prop where
  asc : S.Pairwise (· < ·)
  lt : ∀ t ∈ S, t < P.length
  len : S.length ≤ 4
structure Al (P : Pl) (S : List Nat) (Q : List (List Nat × List Nat)) : Prop where
  len : Q.length ≤ 800
  pr : ∀ q ∈ Q, Pr P q
  sub : ∀ q ∈ Q, q.2.Sublist (lfT P q.1 S)
  mv : ∀ q ∈ Q, ∀ h ∈ vis P q.1, mvT P q h ∈ Q
structure RingT (P : Pl) (Q : List (List Nat × List Nat)) (k : Nat) (kvs : List (Key × D)) : Prop where
  lk : ∀ q ∈ Q, lookD kvs (keyT q) = if dT P q ≤ (k : Int) then some (.int (dT P q)) else none
  len : kvs.length ≤ 100 + 800 * k
def ev : List Nat → Nat → Nat
  | [], _ => 0
  | a :: as, t => a + t * ev as t
def PL (a : List Nat) : Prop := ∃ x, a.getLast? = some x ∧ 0 < x
theorem PL.ne {a : List Nat} (h : PL a) : a ≠ [] := by
  rintro rfl; obtain ⟨x, h, _⟩ := h; simp at h
def prodN : List Nat → Nat
  | [] => 1
  | x :: xs => x * prodN xs
theorem PL.pos {a : List Nat} (h : PL a) : 0 < a.length := List.length_pos_iff.2 h.ne
structure Rw (r : List Nat) : Prop where
  pl : PL r
  one : ev r 0 = 1
def detV (N : Nat → List Nat) (t : Nat) (ss : List Nat) : Nat := ss.foldl (fun r c => 1 + t ^ 2 * (r * ev (N c) t - 1)) 1
def isEnd (b a s : Nat) : Bool := decide (s = b) || decide (s = a)
def endsV (N : Nat → List Nat) (g : List Nat) (b a t : Nat) : Nat := prodN ((g.filter (isEnd b a)).map fun c => ev (N c) t)
def othV (N : Nat → List Nat) (g : List Nat) (b a t : Nat) : Nat := prodN ((g.filter fun c => !isEnd b a c).map fun c => 1 + t ^ 1 * (ev (N c) t - 1))
def opnV (N : Nat → List Nat) (g : List Nat) (b a t : Nat) : Nat := if b = a then endsV N g b a t * (1 + t ^ 1 * (othV N g b a t - 1)) else t * (endsV N g b a t * othV N g b a t)
structure Gr (n : Nat) (N : Nat → List Nat) (g : List Nat) : Prop where
  ok : ∀ c ∈ g, c < n ∧ Rw (N c)
  val : prodN (g.map fun c => ev (N c) 1) < 2 ^ 380
  len : (g.map fun c => (N c).length + 2).sum ≤ 400
def loP (g : List Nat) (b a : Nat) : Nat := min (plc g b) (plc g a)
def hiP (g : List Nat) (b a : Nat) : Nat := max (plc g b) (plc g a)
def midG (g : List Nat) (b a : Nat) : List Nat := (g.drop (loP g b a)).take (hiP g b a + 1 - loP g b a)
def stpV (N : Nat → List Nat) (g : List Nat) (b a t : Nat) : Nat := t ^ (hiP g b a - loP g b a) * (detV N t (g.take (loP g b a)) * (prodN ((midG g b a).map fun c => ev (N c) t) * detV N t (g.drop (hiP g b a + 1)).reverse))
def prtV (P : Pl) (N : Nat → List Nat) (s b a t : Nat) : Nat := if (knd P s).isStep = true ∧ grp P s ≠ [] then stpV N (grp P s) b a t else opnV N (grp P s) b a t
def secV (P : Pl) (xs : List Nat) (N : Nat → List Nat) (s t : Nat) : Nat := ((chs (knd P s) (grp P s)).map fun a => prtV P N s (xs.getD s 0) a t).sum
structure Sp (P : Pl) (xs : List Nat) (N : Nat → List Nat) (s : Nat) : Prop where
  rw : Rw (N s)
  val : ∀ t, ev (N s) t = secV P xs N s t
  bd : ev (N s) 1 ≤ 64 ^ cntN P s
  len : (N s).length + 2 ≤ 4 * cntN P s
def pw (L : List Nat) (t : Nat) : Nat := (L.map fun v => t ^ v).sum
def cmb : List (List Nat) → List (List Nat)
  | [] => [[]]
  | c :: cs => c.flatMap fun a => (cmb cs).map (a :: ·)
def wkv : List Nat → List Nat → List Nat
  | c :: g, w :: v => if 0 < w then c :: wkv g v else wkv g v
  | _, _ => []
def cosN (P : Pl) (x : List Nat) (s a : Nat) (v : List Nat) : Nat := (wlenZ (knd P s) (grp P s) (x.getD s 0) a (wkv (grp P s) v)).toNat + v.sum
def wsF (P : Pl) (x : List Nat) (rows : List (List Nat)) : Nat → Nat → List Nat
  | 0, _ => []
  | f + 1, s => (rows.getD s []).flatMap fun a => (cmb ((grp P s).map (wsF P x rows f))).map (cosN P x s a)
def wsS (P : Pl) (x : List Nat) (rows : List (List Nat)) (s : Nat) : List Nat := wsF P x rows P.length s
structure GrN (n : Nat) (N L : Nat → List Nat) (g : List Nat) : Prop where
  ok : ∀ c ∈ g, c < n ∧ PL (N c) ∧ ∀ t, ev (N c) t = pw (L c) t
  val : prodN (g.map fun c => ev (N c) 1) < 2 ^ 380
  len : (g.map fun c => (N c).length + 2).sum ≤ 400
structure Nar (P : Pl) (rows : List (List Nat)) : Prop where
  len : rows.length = P.length
  sub : ∀ s, s < P.length → rows.getD s [] ≠ [] ∧ (rows.getD s []).length ≤ 41 ∧ ∀ a ∈ rows.getD s [], a ∈ chs (knd P s) (grp P s)
structure SpN (P : Pl) (x : List Nat) (rows : List (List Nat)) (N : Nat → List Nat) (s : Nat) : Prop where
  pl : PL (N s)
  val : ∀ t, ev (N s) t = pw (wsS P x rows s) t
  bd : ev (N s) 1 ≤ 64 ^ cntN P s
  len : (N s).length + 2 ≤ 4 * cntN P s
def IsB84 (n : Nat) (xs : List D) : Prop := ∃ a b : Int, xs = [.int a, .int b] ∧ 0 ≤ a ∧ 0 ≤ b ∧ b ≤ n
theorem IsB84.mono {m n : Nat} {xs : List D} (h : IsB84 m xs) (hm : m ≤ n) : IsB84 n xs := by
  obtain ⟨a, b, h1, h2, h3, h4⟩ := h
  exact ⟨a, b, h1, h2, h3, by omega⟩
structure LB (P : Pl) (x0 : List Nat) (k : Int) (S later : List (List Nat)) : Prop where
  nd : (S ++ later).Nodup
  st : ∀ x ∈ later, IsSt P x ∧ far P x0 x = k + 1
def Lay (P : Pl) (x0 : List Nat) (k : Nat) (l : List (List Nat)) : Prop := l.Nodup ∧ ∀ x, x ∈ l ↔ IsSt P x ∧ far P x0 x = (k : Int)
structure LR (P : Pl) (x0 : List Nat) (k : Nat) (S : List (List Nat)) (ls : List (List (List Nat))) (wt : List (List Nat)) : Prop where
  f : Found P x0 k S
  nd : S.Nodup
  len : ls.length = k
  ls : ∀ j l, ls[j]? = some l → Lay P x0 j l ∧ l ≠ []
  wt : Lay P x0 k wt
structure Lays (P : Pl) (x0 : List Nat) (ls : List (List (List Nat))) : Prop where
  at_ : ∀ j l, ls[j]? = some l → Lay P x0 j l ∧ l ≠ []
  all : ∀ x, IsSt P x → far P x0 x < (ls.length : Int)
  ne : ls ≠ []
  le : ls.length ≤ 121
end AC
set_option Elab.async false
set_option linter.all false
set_option maxRecDepth 100000
namespace K14
open PySem PySem.Spec L2 TL AC
theorem all_parents {P : Pl} (w : WF P) : M_all_parents [encP P] = some (parsD P P.length) := by
  have hl : P.length ≤ 40 := w.le
  have loop : Okk (forG (aTup 2 (aCons (aNm 3) (aCons (aTup 2 (aCons (aNm 4) (aCons (aNm 5) aNil))) aNil))) B_all_parents_1 (enumD (P.map encR)) [.sh (encP P), .od [], .ow [], .un, .un, .un])
      (fun r => ∃ s1 s3 s4 s5, r = .nx [.sh (encP P), s1, .ow (parsD P P.length), s3, s4, s5]) := by
    generalize hpl : encP P = pl
    refine forG_ok (n := 0) (fun n e => ∃ kvs s3 s4 s5, e = [.sh pl, .od kvs, .ow (parsD P n), s3, s4, s5] ∧ kvs.length ≤ n ∧ ∀ d, lookD kvs (.inl d) = (lastF P d n).map fun j => .int (j : Int)) ⟨[], .un, .un, .un, rfl, Nat.le_refl _, fun d => rfl⟩ ?_ ?_
    · rintro i d e hd ⟨kvs, s3, s4, s5, rfl, hk, hlook⟩
      obtain ⟨x, hx, rfl⟩ := enumD_get hd
      have hi : i < P.length := by
        have := (List.getElem?_eq_some_iff.mp hx).1
        simpa using this
      rw [encP_get hi] at hx
      injection hx with hx; subst hx
      rw [Nat.zero_add] at hk hlook ⊢
      have l1 : kvs.length < LN := by show _ < 16777216; omega
      have l2 : (parsD P i).length < LN := by rw [parsD_len]; show _ < 16777216; omega
      have h2 := storeD_len (.inl (dep P i : Int)) (.int (i : Int)) kvs
      have h3 := lookD_store (.inl (dep P i : Int)) (.int (i : Int))
      have h4 : lookD (storeD kvs (.inl (dep P i : Int)) (.int (i : Int))) (.inl ((dep P i : Int) - 1)) = (par P i).map fun j => .int (j : Int) := by
        rw [h3, if_neg (by intro z; injection z with z; omega), hlook, par_eq w hi, lastF, if_neg (by omega)]
      have h5 : (lookD (storeD kvs (.inl (dep P i : Int)) (.int (i : Int))) (.inl ((dep P i : Int) - 1))).getD .none = parD (par P i) := by
        rw [h4]; cases par P i <;> rfl
      have h6 : ∀ d, lookD (storeD kvs (.inl (dep P i : Int)) (.int (i : Int))) (.inl d) = (lastF P d (i + 1)).map fun j => .int (j : Int) := by
        intro d
        rw [h3, lastF]
        by_cases c : (dep P i : Int) = d
        · rw [if_pos (by rw [c]), if_pos c]; rfl
        · rw [if_neg (by intro z; injection z with z; exact c z.symm), if_neg c, hlook]
      have hb : B_all_parents_1 [.sh pl, .od kvs, .ow (parsD P i), .sh (.int (i : Int)), .sh (.int (dep P i : Int)), .sh (.str (P[i]).2.nm)] = some (.nx [.sh pl, .od (storeD kvs (.inl (dep P i : Int)) (.int (i : Int))), .ow (parsD P (i + 1)), .sh (.int (i : Int)), .sh (.int (dep P i : Int)), .sh (.str (P[i]).2.nm)]) := by
        rw [parsD_succ, ← h5]
        simp [TL.gSeq, TL.gIf, TL.gSet, TL.gOwn, TL.gRet, TL.gRetF, TL.gRetO, TL.gNx, TL.gNo, TL.gBk, TL.gCt, TL.gAsg, TL.fVar, TL.fC, TL.f2, TL.f1, TL.fCons, TL.fNil, TL.fTup, TL.fLst, TL.fCall, TL.fCallF, TL.fTold, TL.fIf, TL.fAnd, TL.fOr, TL.fNot, TL.fMapD, TL.fB, TL.bOr, TL.bAnd, TL.bNot, TL.bYes, TL.fCh, TL.iSeq, TL.iRg1, TL.iRg2, TL.iEn, TL.iZp, TL.aNm, TL.aTup, TL.aCons, TL.aNil, TL.fSl, TL.pSome, TL.pNo, TL.asI, TL.asN, TL.asB, TL.ent, TL.mV, TL.mF, TL.outV, TL.outF, TL.tyNe, TL.tyEq, TL.tyN, TL.lenD, TL.addD_int, TL.subD_int, TL.ltD_int, TL.leD_int, TL.gtD_int, TL.geD_int, TL.negD_int, TL.eqD_int, TL.neD_int, Function.comp_apply, TL.pur, TL.e2, TL.eTold, TL.eLst, TL.eCons, TL.eNil, TL.eTup, TL.eCall, TL.eCallF, TL.eB, TL.eNot, TL.eOr, TL.eAnd, TL.eIf, TL.eFrz, TL.fFrz, TL.frzE, TL.mgE, TL.gPar, TL.vT, TL.vF, TL.vNil, TL.stE, TL.gSetE, TL.gOwnE, TL.gIfE, TL.gRetE, TL.gRetFE, TL.gAppE, TL.gPutE, TL.gPut, TL.gApp, TL.gAsgE, TL.gDropE, TL.ownE, TL.fIxO, TL.eCallG, TL.eCallGF, TL.agSlot, TL.agVal, TL.agTmp, TL.agNil, TL.okAgs, TL.okSlots, TL.toSV, TL.backE, TL.isOw, TL.apart, TL.mE, TL.mEF, TL.outE, TL.outEF, TL.endE, TL.parE, TL.kpOk, List.range, List.range.loop, TL.gDict0, TL.gDPut, TL.fGetO, TL.odE, TL.keyD, TL.gApp2, TL.ooE, TL.gFrzO, TL.frzOE, TL.fLcO, TL.gOwnO, TL.fStar, TL.fCallK, TL.fCallFK, TL.permL, TL.eLc, TL.gAll, TL.gAllE, TL.fSlO, TL.fFrzL, TL.eFrzL, TL.fT, TL.truD, TL.isNN, B_all_parents_1, l1, l2]
      exact ⟨_, rfl, _, hb, _, _, _, _, rfl, by omega, h6⟩
    · rintro e ⟨kvs, s3, s4, s5, rfl, _, _⟩
      rw [enumD_len, List.length_map, Nat.zero_add]
      exact ⟨_, _, _, _, rfl⟩
  obtain ⟨r, h1, s1, s3, s4, s5, rfl⟩ := loop
  have e : encP P = .list (P.map encR) := rfl
  have e0 : (0 : Nat) ≤ LN := Nat.zero_le _
  rw [e] at h1 ⊢
  generalize P.map encR = pl at h1 ⊢
  simp [TL.gSeq, TL.gIf, TL.gSet, TL.gOwn, TL.gRet, TL.gRetF, TL.gRetO, TL.gNx, TL.gNo, TL.gBk, TL.gCt, TL.gAsg, TL.fVar, TL.fC, TL.f2, TL.f1, TL.fCons, TL.fNil, TL.fTup, TL.fLst, TL.fCall, TL.fCallF, TL.fTold, TL.fIf, TL.fAnd, TL.fOr, TL.fNot, TL.fMapD, TL.fB, TL.bOr, TL.bAnd, TL.bNot, TL.bYes, TL.fCh, TL.iSeq, TL.iRg1, TL.iRg2, TL.iEn, TL.iZp, TL.aNm, TL.aTup, TL.aCons, TL.aNil, TL.fSl, TL.pSome, TL.pNo, TL.asI, TL.asN, TL.asB, TL.ent, TL.mV, TL.mF, TL.outV, TL.outF, TL.tyNe, TL.tyEq, TL.tyN, TL.lenD, TL.addD_int, TL.subD_int, TL.ltD_int, TL.leD_int, TL.gtD_int, TL.geD_int, TL.negD_int, TL.eqD_int, TL.neD_int, Function.comp_apply, TL.pur, TL.e2, TL.eTold, TL.eLst, TL.eCons, TL.eNil, TL.eTup, TL.eCall, TL.eCallF, TL.eB, TL.eNot, TL.eOr, TL.eAnd, TL.eIf, TL.eFrz, TL.fFrz, TL.frzE, TL.mgE, TL.gPar, TL.vT, TL.vF, TL.vNil, TL.stE, TL.gSetE, TL.gOwnE, TL.gIfE, TL.gRetE, TL.gRetFE, TL.gAppE, TL.gPutE, TL.gPut, TL.gApp, TL.gAsgE, TL.gDropE, TL.ownE, TL.fIxO, TL.eCallG, TL.eCallGF, TL.agSlot, TL.agVal, TL.agTmp, TL.agNil, TL.okAgs, TL.okSlots, TL.toSV, TL.backE, TL.isOw, TL.apart, TL.mE, TL.mEF, TL.outE, TL.outEF, TL.endE, TL.parE, TL.kpOk, List.range, List.range.loop, TL.gDict0, TL.gDPut, TL.fGetO, TL.odE, TL.keyD, TL.gApp2, TL.ooE, TL.gFrzO, TL.frzOE, TL.fLcO, TL.gOwnO, TL.fStar, TL.fCallK, TL.fCallFK, TL.permL, TL.eLc, TL.gAll, TL.gAllE, TL.fSlO, TL.fFrzL, TL.eFrzL, TL.fT, TL.truD, TL.isNN, M_all_parents, G_all_parents, L_all_parents_1, gFor, h1, e0]
theorem all_groups {P : Pl} (w : WF P) : M_all_groups [encP P] = some (.list ((grps P).map fun g => .list (encN g))) := by
  have hl : P.length ≤ 40 := w.le
  have hlL : P.length ≤ LN := by show _ ≤ 16777216; omega
  have z0 : (P.map encR).map (fun _ => ([] : List D)) = gssD P 0 := by
    apply List.ext_getElem?
    intro i
    by_cases hi : i < P.length
    · rw [gssD_get hi]; simp [hi, grpN, encN]
    · rw [List.getElem?_eq_none (by simp; omega), List.getElem?_eq_none (by rw [gssD_len]; omega)]
  have loop : Okk (forG (aTup 2 (aCons (aNm 2) (aCons (aNm 3) aNil))) B_all_groups_1 (enumD (parsD P P.length)) [.sh (encP P), .oo (gssD P 0), .un, .un, .un])
      (fun r => ∃ s2 s3, r = .nx [.sh (encP P), .oo (gssD P P.length), s2, s3, .un]) := by
    generalize hpl : encP P = pl
    refine forG_ok (n := 0) (fun n e => ∃ s2 s3, e = [.sh pl, .oo (gssD P n), s2, s3, .un]) ⟨.un, .un, rfl⟩ ?_ ?_
    · rintro i d e hd ⟨s2, s3, rfl⟩
      obtain ⟨x, hx, rfl⟩ := enumD_get hd
      have hi : i < P.length := by
        have := (List.getElem?_eq_some_iff.mp hx).1
        simpa [parsD] using this
      have ex : x = parD (par P i) := by
        simp only [parsD, List.getElem?_map, List.getElem?_range hi, Option.map_some, Option.some.injEq] at hx
        exact hx.symm
      subst ex
      rw [Nat.zero_add]
      refine ⟨[.sh pl, .oo (gssD P i), .sh (.int (i : Int)), .sh (parD (par P i)), .un], rfl, ?_⟩
      cases hp : par P i with
      | none =>
        refine ⟨.nx [.sh pl, .oo (gssD P i), .sh (.int (i : Int)), .sh .none, .un], ?_, _, _, by rw [gssD_none hp]⟩
        rfl
      | some j =>
        have hj : j < P.length := by have := (parF_lt hp).1; omega
        have e1 : ixN (gssD P i).length (j : Int) = some j := by
          rw [gssD_len]; unfold ixN; rw [if_pos (Int.natCast_nonneg j), if_pos (by omega), Int.toNat_natCast]
        have e2 := gssD_get (P := P) (n := i) hj
        have e3 : (encN (grpN P i j)).length < LN := by
          have := @grpN_len P i j
          show _ < 16777216
          unfold encN
          rw [List.length_map]; omega
        refine ⟨.nx [.sh pl, .oo (gssD P (i + 1)), .sh (.int (i : Int)), .sh (.int (j : Int)), .un], ?_, _, _, rfl⟩
        rw [gssD_some hp]
        generalize gssD P i = gs at e1 e2
        generalize encN (grpN P i j) = g at e2 e3
        simp [TL.gSeq, TL.gIf, TL.gSet, TL.gOwn, TL.gRet, TL.gRetF, TL.gRetO, TL.gNx, TL.gNo, TL.gBk, TL.gCt, TL.gAsg, TL.fVar, TL.fC, TL.f2, TL.f1, TL.fCons, TL.fNil, TL.fTup, TL.fLst, TL.fCall, TL.fCallF, TL.fTold, TL.fIf, TL.fAnd, TL.fOr, TL.fNot, TL.fMapD, TL.fB, TL.bOr, TL.bAnd, TL.bNot, TL.bYes, TL.fCh, TL.iSeq, TL.iRg1, TL.iRg2, TL.iEn, TL.iZp, TL.aNm, TL.aTup, TL.aCons, TL.aNil, TL.fSl, TL.pSome, TL.pNo, TL.asI, TL.asN, TL.asB, TL.ent, TL.mV, TL.mF, TL.outV, TL.outF, TL.tyNe, TL.tyEq, TL.tyN, TL.lenD, TL.addD_int, TL.subD_int, TL.ltD_int, TL.leD_int, TL.gtD_int, TL.geD_int, TL.negD_int, TL.eqD_int, TL.neD_int, Function.comp_apply, TL.pur, TL.e2, TL.eTold, TL.eLst, TL.eCons, TL.eNil, TL.eTup, TL.eCall, TL.eCallF, TL.eB, TL.eNot, TL.eOr, TL.eAnd, TL.eIf, TL.eFrz, TL.fFrz, TL.frzE, TL.mgE, TL.gPar, TL.vT, TL.vF, TL.vNil, TL.stE, TL.gSetE, TL.gOwnE, TL.gIfE, TL.gRetE, TL.gRetFE, TL.gAppE, TL.gPutE, TL.gPut, TL.gApp, TL.gAsgE, TL.gDropE, TL.ownE, TL.fIxO, TL.eCallG, TL.eCallGF, TL.agSlot, TL.agVal, TL.agTmp, TL.agNil, TL.okAgs, TL.okSlots, TL.toSV, TL.backE, TL.isOw, TL.apart, TL.mE, TL.mEF, TL.outE, TL.outEF, TL.endE, TL.parE, TL.kpOk, List.range, List.range.loop, TL.gDict0, TL.gDPut, TL.fGetO, TL.odE, TL.keyD, TL.gApp2, TL.ooE, TL.gFrzO, TL.frzOE, TL.fLcO, TL.gOwnO, TL.fStar, TL.fCallK, TL.fCallFK, TL.permL, TL.eLc, TL.gAll, TL.gAllE, TL.fSlO, TL.fFrzL, TL.eFrzL, TL.fT, TL.truD, TL.isNN, B_all_groups_1, parD, e1, e2, e3, isNoneD]
    · rintro e ⟨s2, s3, rfl⟩
      rw [enumD_len, parsD_len, Nat.zero_add]
      exact ⟨_, _, rfl⟩
  obtain ⟨r, h1, s2, s3, rfl⟩ := loop
  have e : encP P = .list (P.map encR) := rfl
  have hz : (P.map encR).length ≤ LN := by rw [List.length_map]; exact hlL
  have e1 := all_parents w
  have e2 : lcO (aNm 4) (P.map encR) [.sh (.list (P.map encR)), .un, .un, .un, .un] = some (gssD P 0) := by
    rw [← z0]; exact lcO_all fun d => ⟨_, rfl⟩
  have e4 : grps P = (List.range P.length).map fun i => grpN P P.length i := rfl
  have e3 : (gssD P P.length).map PyData.list = (grps P).map fun g => .list (encN g) := by
    rw [e4]
    unfold gssD
    rw [List.map_map, List.map_map]; rfl
  rw [e] at h1 e1 ⊢
  rw [← e3]
  generalize gssD P P.length = g1 at h1 ⊢
  generalize gssD P 0 = g0 at h1 e2
  generalize parsD P P.length = ps at h1 e1
  generalize P.map encR = pl at h1 e1 e2 hz ⊢
  simp [TL.gSeq, TL.gIf, TL.gSet, TL.gOwn, TL.gRet, TL.gRetF, TL.gRetO, TL.gNx, TL.gNo, TL.gBk, TL.gCt, TL.gAsg, TL.fVar, TL.fC, TL.f2, TL.f1, TL.fCons, TL.fNil, TL.fTup, TL.fLst, TL.fCall, TL.fCallF, TL.fTold, TL.fIf, TL.fAnd, TL.fOr, TL.fNot, TL.fMapD, TL.fB, TL.bOr, TL.bAnd, TL.bNot, TL.bYes, TL.fCh, TL.iSeq, TL.iRg1, TL.iRg2, TL.iEn, TL.iZp, TL.aNm, TL.aTup, TL.aCons, TL.aNil, TL.fSl, TL.pSome, TL.pNo, TL.asI, TL.asN, TL.asB, TL.ent, TL.mV, TL.mF, TL.outV, TL.outF, TL.tyNe, TL.tyEq, TL.tyN, TL.lenD, TL.addD_int, TL.subD_int, TL.ltD_int, TL.leD_int, TL.gtD_int, TL.geD_int, TL.negD_int, TL.eqD_int, TL.neD_int, Function.comp_apply, TL.pur, TL.e2, TL.eTold, TL.eLst, TL.eCons, TL.eNil, TL.eTup, TL.eCall, TL.eCallF, TL.eB, TL.eNot, TL.eOr, TL.eAnd, TL.eIf, TL.eFrz, TL.fFrz, TL.frzE, TL.mgE, TL.gPar, TL.vT, TL.vF, TL.vNil, TL.stE, TL.gSetE, TL.gOwnE, TL.gIfE, TL.gRetE, TL.gRetFE, TL.gAppE, TL.gPutE, TL.gPut, TL.gApp, TL.gAsgE, TL.gDropE, TL.ownE, TL.fIxO, TL.eCallG, TL.eCallGF, TL.agSlot, TL.agVal, TL.agTmp, TL.agNil, TL.okAgs, TL.okSlots, TL.toSV, TL.backE, TL.isOw, TL.apart, TL.mE, TL.mEF, TL.outE, TL.outEF, TL.endE, TL.parE, TL.kpOk, List.range, List.range.loop, TL.gDict0, TL.gDPut, TL.fGetO, TL.odE, TL.keyD, TL.gApp2, TL.ooE, TL.gFrzO, TL.frzOE, TL.fLcO, TL.gOwnO, TL.fStar, TL.fCallK, TL.fCallFK, TL.permL, TL.eLc, TL.gAll, TL.gAllE, TL.fSlO, TL.fFrzL, TL.eFrzL, TL.fT, TL.truD, TL.isNN, M_all_groups, G_all_groups, L_all_groups_1, gFor, e1, e2, h1, hz, wipeE]
theorem group_choices {k : Kd} {g : List Nat} (hl : g.length ≤ 1000) : M_group_choices [.str k.nm, .list (encN g)] = some (.list (encN (chs k g))) := by
  have l1 : g.length + 1 ≤ LN := by show _ ≤ 16777216; omega
  have e1 := nm_eq k
  have e2 : (encN g).isEmpty = g.isEmpty := by cases g <;> rfl
  have e3 := @encN_len g
  rw [chs_enc]
  generalize encN g = gs at *
  generalize g.isEmpty = b at *
  generalize g.length = n at *
  generalize k.nm = nm at *
  have l2 : (PyData.int 0 :: gs).length ≤ LN := by rw [List.length_cons, e3]; exact l1
  generalize hc : PyData.int 0 :: gs = cs at l2
  have hc' : (PyData.int 0 :: (gs ++ [])) = cs := by rw [List.append_nil]; exact hc
  cases hk : k.isOne <;> cases b <;> simp [TL.gSeq, TL.gIf, TL.gSet, TL.gOwn, TL.gRet, TL.gRetF, TL.gRetO, TL.gNx, TL.gNo, TL.gBk, TL.gCt, TL.gAsg, TL.fVar, TL.fC, TL.f2, TL.f1, TL.fCons, TL.fNil, TL.fTup, TL.fLst, TL.fCall, TL.fCallF, TL.fTold, TL.fIf, TL.fAnd, TL.fOr, TL.fNot, TL.fMapD, TL.fB, TL.bOr, TL.bAnd, TL.bNot, TL.bYes, TL.fCh, TL.iSeq, TL.iRg1, TL.iRg2, TL.iEn, TL.iZp, TL.aNm, TL.aTup, TL.aCons, TL.aNil, TL.fSl, TL.pSome, TL.pNo, TL.asI, TL.asN, TL.asB, TL.ent, TL.mV, TL.mF, TL.outV, TL.outF, TL.tyNe, TL.tyEq, TL.tyN, TL.lenD, TL.addD_int, TL.subD_int, TL.ltD_int, TL.leD_int, TL.gtD_int, TL.geD_int, TL.negD_int, TL.eqD_int, TL.neD_int, Function.comp_apply, TL.pur, TL.e2, TL.eTold, TL.eLst, TL.eCons, TL.eNil, TL.eTup, TL.eCall, TL.eCallF, TL.eB, TL.eNot, TL.eOr, TL.eAnd, TL.eIf, TL.eFrz, TL.fFrz, TL.frzE, TL.mgE, TL.gPar, TL.vT, TL.vF, TL.vNil, TL.stE, TL.gSetE, TL.gOwnE, TL.gIfE, TL.gRetE, TL.gRetFE, TL.gAppE, TL.gPutE, TL.gPut, TL.gApp, TL.gAsgE, TL.gDropE, TL.ownE, TL.fIxO, TL.eCallG, TL.eCallGF, TL.agSlot, TL.agVal, TL.agTmp, TL.agNil, TL.okAgs, TL.okSlots, TL.toSV, TL.backE, TL.isOw, TL.apart, TL.mE, TL.mEF, TL.outE, TL.outEF, TL.endE, TL.parE, TL.kpOk, List.range, List.range.loop, TL.gDict0, TL.gDPut, TL.fGetO, TL.odE, TL.keyD, TL.gApp2, TL.ooE, TL.gFrzO, TL.frzOE, TL.fLcO, TL.gOwnO, TL.fStar, TL.fCallK, TL.fCallFK, TL.permL, TL.eLc, TL.gAll, TL.gAllE, TL.fSlO, TL.fFrzL, TL.eFrzL, TL.fT, TL.truD, TL.isNN, M_group_choices, G_group_choices, e1, e2, e3, hk, hc, hc', l2]
theorem all_choices {P : Pl} (w : WF P) : M_all_choices [encP P] = some ((chos P).map fun c => .list (encN c)) := by
  have hl : P.length ≤ 40 := w.le
  have e := all_groups w
  have ez : zipD (P.map encR) ((grps P).map fun g => .list (encN g)) = (P.zip (grps P)).map fun p => PyData.tuple [encR p.1, .list (encN p.2)] := by
    unfold zipD
    rw [List.zip_map, List.map_map]; rfl
  have ep : encP P = .list (P.map encR) := rfl
  have main : lcG (aTup 2 (aCons (aNm 1) (aCons (aNm 2) aNil))) bYes E_all_choices_1 ((P.zip (grps P)).map fun p => PyData.tuple [encR p.1, .list (encN p.2)]) [.sh (encP P), .un, .un] = some ((chos P).map fun c => .list (encN c)) := by
    have := lcG_map (A := aTup 2 (aCons (aNm 1) (aCons (aNm 2) aNil))) (t := bYes) (f := E_all_choices_1) (e := [.sh (encP P), .un, .un])
      (fun d => match d with | .tuple [.tuple [_, .str s], .list g] => (M_group_choices [.str s, .list g]).getD .none | _ => .none) (ds := (P.zip (grps P)).map fun p => PyData.tuple [encR p.1, .list (encN p.2)]) ?_
    · rw [this, List.map_map]
      unfold chos
      rw [List.map_map]
      congr 1
      apply List.map_congr_left
      rintro ⟨r, g⟩ hm
      have hg : g.length ≤ 1000 := by
        have := (List.of_mem_zip hm).2
        simp only [grps, List.mem_map] at this
        obtain ⟨i, _, rfl⟩ := this
        have := @grpN_len P P.length i
        show (grpN P P.length i).length ≤ 1000
        omega
      show (M_group_choices [.str r.2.nm, .list (encN g)]).getD .none = _
      rw [group_choices hg]; rfl
    · rintro d hd
      obtain ⟨⟨r, g⟩, hm, rfl⟩ := List.mem_map.1 hd
      have hg : g.length ≤ 1000 := by
        have := (List.of_mem_zip hm).2
        simp only [grps, List.mem_map] at this
        obtain ⟨i, _, rfl⟩ := this
        have := @grpN_len P P.length i
        show (grpN P P.length i).length ≤ 1000
        omega
      refine ⟨[.sh (encP P), .sh (encR r), .sh (.list (encN g))], rfl, rfl, ?_⟩
      have h1 := group_choices (k := r.2) hg
      have h2 := row1 (.int (r.1 : Nat)) (.str r.2.nm)
      show _ = some ((M_group_choices [.str r.2.nm, .list (encN g)]).getD .none)
      rw [h1]
      generalize encP P = pl
      generalize encN g = gs at *
      simp [TL.gSeq, TL.gIf, TL.gSet, TL.gOwn, TL.gRet, TL.gRetF, TL.gRetO, TL.gNx, TL.gNo, TL.gBk, TL.gCt, TL.gAsg, TL.fVar, TL.fC, TL.f2, TL.f1, TL.fCons, TL.fNil, TL.fTup, TL.fLst, TL.fCall, TL.fCallF, TL.fTold, TL.fIf, TL.fAnd, TL.fOr, TL.fNot, TL.fMapD, TL.fB, TL.bOr, TL.bAnd, TL.bNot, TL.bYes, TL.fCh, TL.iSeq, TL.iRg1, TL.iRg2, TL.iEn, TL.iZp, TL.aNm, TL.aTup, TL.aCons, TL.aNil, TL.fSl, TL.pSome, TL.pNo, TL.asI, TL.asN, TL.asB, TL.ent, TL.mV, TL.mF, TL.outV, TL.outF, TL.tyNe, TL.tyEq, TL.tyN, TL.lenD, TL.addD_int, TL.subD_int, TL.ltD_int, TL.leD_int, TL.gtD_int, TL.geD_int, TL.negD_int, TL.eqD_int, TL.neD_int, Function.comp_apply, TL.pur, TL.e2, TL.eTold, TL.eLst, TL.eCons, TL.eNil, TL.eTup, TL.eCall, TL.eCallF, TL.eB, TL.eNot, TL.eOr, TL.eAnd, TL.eIf, TL.eFrz, TL.fFrz, TL.frzE, TL.mgE, TL.gPar, TL.vT, TL.vF, TL.vNil, TL.stE, TL.gSetE, TL.gOwnE, TL.gIfE, TL.gRetE, TL.gRetFE, TL.gAppE, TL.gPutE, TL.gPut, TL.gApp, TL.gAsgE, TL.gDropE, TL.ownE, TL.fIxO, TL.eCallG, TL.eCallGF, TL.agSlot, TL.agVal, TL.agTmp, TL.agNil, TL.okAgs, TL.okSlots, TL.toSV, TL.backE, TL.isOw, TL.apart, TL.mE, TL.mEF, TL.outE, TL.outEF, TL.endE, TL.parE, TL.kpOk, List.range, List.range.loop, TL.gDict0, TL.gDPut, TL.fGetO, TL.odE, TL.keyD, TL.gApp2, TL.ooE, TL.gFrzO, TL.frzOE, TL.fLcO, TL.gOwnO, TL.fStar, TL.fCallK, TL.fCallFK, TL.permL, TL.eLc, TL.gAll, TL.gAllE, TL.fSlO, TL.fFrzL, TL.eFrzL, TL.fT, TL.truD, TL.isNN, E_all_choices_1, encR, h1, h2]
  have lz : ((P.zip (grps P)).map fun p => PyData.tuple [encR p.1, .list (encN p.2)]).length ≤ LN := by
    rw [List.length_map, List.length_zip]; show _ ≤ 16777216; omega
  rw [ep] at e main ⊢
  generalize (P.zip (grps P)).map (fun p => PyData.tuple [encR p.1, .list (encN p.2)]) = zs at *
  generalize (grps P).map (fun g => PyData.list (encN g)) = gs at *
  generalize P.map encR = pl at *
  simp [TL.gSeq, TL.gIf, TL.gSet, TL.gOwn, TL.gRet, TL.gRetF, TL.gRetO, TL.gNx, TL.gNo, TL.gBk, TL.gCt, TL.gAsg, TL.fVar, TL.fC, TL.f2, TL.f1, TL.fCons, TL.fNil, TL.fTup, TL.fLst, TL.fCall, TL.fCallF, TL.fTold, TL.fIf, TL.fAnd, TL.fOr, TL.fNot, TL.fMapD, TL.fB, TL.bOr, TL.bAnd, TL.bNot, TL.bYes, TL.fCh, TL.iSeq, TL.iRg1, TL.iRg2, TL.iEn, TL.iZp, TL.aNm, TL.aTup, TL.aCons, TL.aNil, TL.fSl, TL.pSome, TL.pNo, TL.asI, TL.asN, TL.asB, TL.ent, TL.mV, TL.mF, TL.outV, TL.outF, TL.tyNe, TL.tyEq, TL.tyN, TL.lenD, TL.addD_int, TL.subD_int, TL.ltD_int, TL.leD_int, TL.gtD_int, TL.geD_int, TL.negD_int, TL.eqD_int, TL.neD_int, Function.comp_apply, TL.pur, TL.e2, TL.eTold, TL.eLst, TL.eCons, TL.eNil, TL.eTup, TL.eCall, TL.eCallF, TL.eB, TL.eNot, TL.eOr, TL.eAnd, TL.eIf, TL.eFrz, TL.fFrz, TL.frzE, TL.mgE, TL.gPar, TL.vT, TL.vF, TL.vNil, TL.stE, TL.gSetE, TL.gOwnE, TL.gIfE, TL.gRetE, TL.gRetFE, TL.gAppE, TL.gPutE, TL.gPut, TL.gApp, TL.gAsgE, TL.gDropE, TL.ownE, TL.fIxO, TL.eCallG, TL.eCallGF, TL.agSlot, TL.agVal, TL.agTmp, TL.agNil, TL.okAgs, TL.okSlots, TL.toSV, TL.backE, TL.isOw, TL.apart, TL.mE, TL.mEF, TL.outE, TL.outEF, TL.endE, TL.parE, TL.kpOk, List.range, List.range.loop, TL.gDict0, TL.gDPut, TL.fGetO, TL.odE, TL.keyD, TL.gApp2, TL.ooE, TL.gFrzO, TL.frzOE, TL.fLcO, TL.gOwnO, TL.fStar, TL.fCallK, TL.fCallFK, TL.permL, TL.eLc, TL.gAll, TL.gAllE, TL.fSlO, TL.fFrzL, TL.eFrzL, TL.fT, TL.truD, TL.isNN, M_all_choices, G_all_choices, e, ez, fLc, lz, main, wipeE]
theorem whole (d : D) : M_is_whole_number [d] = some (.bool (match d with | .int _ => true | _ => false)) := by cases d <;> rfl
theorem word_ok (k : Kd) : M_is_kind_word [.str k.nm] = some (.bool true) := by
  have e1 : inD (.str k.nm) d_KINDS = some (.bool true) := by cases k <;> rfl
  have e2 : isT "str" (.str k.nm) = true := rfl
  simp [TL.gSeq, TL.gIf, TL.gSet, TL.gOwn, TL.gRet, TL.gRetF, TL.gRetO, TL.gNx, TL.gNo, TL.gBk, TL.gCt, TL.gAsg, TL.fVar, TL.fC, TL.f2, TL.f1, TL.fCons, TL.fNil, TL.fTup, TL.fLst, TL.fCall, TL.fCallF, TL.fTold, TL.fIf, TL.fAnd, TL.fOr, TL.fNot, TL.fMapD, TL.fB, TL.bOr, TL.bAnd, TL.bNot, TL.bYes, TL.fCh, TL.iSeq, TL.iRg1, TL.iRg2, TL.iEn, TL.iZp, TL.aNm, TL.aTup, TL.aCons, TL.aNil, TL.fSl, TL.pSome, TL.pNo, TL.asI, TL.asN, TL.asB, TL.ent, TL.mV, TL.mF, TL.outV, TL.outF, TL.tyNe, TL.tyEq, TL.tyN, TL.lenD, TL.addD_int, TL.subD_int, TL.ltD_int, TL.leD_int, TL.gtD_int, TL.geD_int, TL.negD_int, TL.eqD_int, TL.neD_int, Function.comp_apply, TL.pur, TL.e2, TL.eTold, TL.eLst, TL.eCons, TL.eNil, TL.eTup, TL.eCall, TL.eCallF, TL.eB, TL.eNot, TL.eOr, TL.eAnd, TL.eIf, TL.eFrz, TL.fFrz, TL.frzE, TL.mgE, TL.gPar, TL.vT, TL.vF, TL.vNil, TL.stE, TL.gSetE, TL.gOwnE, TL.gIfE, TL.gRetE, TL.gRetFE, TL.gAppE, TL.gPutE, TL.gPut, TL.gApp, TL.gAsgE, TL.gDropE, TL.ownE, TL.fIxO, TL.eCallG, TL.eCallGF, TL.agSlot, TL.agVal, TL.agTmp, TL.agNil, TL.okAgs, TL.okSlots, TL.toSV, TL.backE, TL.isOw, TL.apart, TL.mE, TL.mEF, TL.outE, TL.outEF, TL.endE, TL.parE, TL.kpOk, List.range, List.range.loop, TL.gDict0, TL.gDPut, TL.fGetO, TL.odE, TL.keyD, TL.gApp2, TL.ooE, TL.gFrzO, TL.frzOE, TL.fLcO, TL.gOwnO, TL.fStar, TL.fCallK, TL.fCallFK, TL.permL, TL.eLc, TL.gAll, TL.gAllE, TL.fSlO, TL.fFrzL, TL.eFrzL, TL.fT, TL.truD, TL.isNN, M_is_kind_word, G_is_kind_word, e1, e2]
theorem row_ok (r : Nat × Kd) : M_is_depth_and_kind [encR r] = some (.bool true) := by
  obtain ⟨n, k⟩ := r
  have e0 := whole (.int (n : Int))
  have e1 := word_ok k
  have e3 : neD (.int 2) (.int 2) = some (.bool false) := rfl
  simp only at e0
  simp [TL.gSeq, TL.gIf, TL.gSet, TL.gOwn, TL.gRet, TL.gRetF, TL.gRetO, TL.gNx, TL.gNo, TL.gBk, TL.gCt, TL.gAsg, TL.fVar, TL.fC, TL.f2, TL.f1, TL.fCons, TL.fNil, TL.fTup, TL.fLst, TL.fCall, TL.fCallF, TL.fTold, TL.fIf, TL.fAnd, TL.fOr, TL.fNot, TL.fMapD, TL.fB, TL.bOr, TL.bAnd, TL.bNot, TL.bYes, TL.fCh, TL.iSeq, TL.iRg1, TL.iRg2, TL.iEn, TL.iZp, TL.aNm, TL.aTup, TL.aCons, TL.aNil, TL.fSl, TL.pSome, TL.pNo, TL.asI, TL.asN, TL.asB, TL.ent, TL.mV, TL.mF, TL.outV, TL.outF, TL.tyNe, TL.tyEq, TL.tyN, TL.lenD, TL.addD_int, TL.subD_int, TL.ltD_int, TL.leD_int, TL.gtD_int, TL.geD_int, TL.negD_int, TL.eqD_int, TL.neD_int, Function.comp_apply, TL.pur, TL.e2, TL.eTold, TL.eLst, TL.eCons, TL.eNil, TL.eTup, TL.eCall, TL.eCallF, TL.eB, TL.eNot, TL.eOr, TL.eAnd, TL.eIf, TL.eFrz, TL.fFrz, TL.frzE, TL.mgE, TL.gPar, TL.vT, TL.vF, TL.vNil, TL.stE, TL.gSetE, TL.gOwnE, TL.gIfE, TL.gRetE, TL.gRetFE, TL.gAppE, TL.gPutE, TL.gPut, TL.gApp, TL.gAsgE, TL.gDropE, TL.ownE, TL.fIxO, TL.eCallG, TL.eCallGF, TL.agSlot, TL.agVal, TL.agTmp, TL.agNil, TL.okAgs, TL.okSlots, TL.toSV, TL.backE, TL.isOw, TL.apart, TL.mE, TL.mEF, TL.outE, TL.outEF, TL.endE, TL.parE, TL.kpOk, List.range, List.range.loop, TL.gDict0, TL.gDPut, TL.fGetO, TL.odE, TL.keyD, TL.gApp2, TL.ooE, TL.gFrzO, TL.frzOE, TL.fLcO, TL.gOwnO, TL.fStar, TL.fCallK, TL.fCallFK, TL.permL, TL.eLc, TL.gAll, TL.gAllE, TL.fSlO, TL.fFrzL, TL.eFrzL, TL.fT, TL.truD, TL.isNN, M_is_depth_and_kind, G_is_depth_and_kind, encR, e0, e1, e3]
theorem fit_lc {s0 : SV} (ps : List (Nat × Nat)) : lcG (aTup 2 (aCons (aNm 1) (aCons (aNm 2) aNil))) bYes E_depths_fit_1 (ps.map fun p => PyData.tuple [.int (p.1 : Int), .int (p.2 : Int)]) [s0, .un, .un] = some (ps.map (PyData.bool ∘ stepOk)) := by
  rw [lcG_map (fun d => match d with | .tuple [.int x, .int y] => .bool (stepOk (x.toNat, y.toNat)) | d => d)]
  · rw [List.map_map]
    rfl
  · intro d hd
    obtain ⟨⟨x, y⟩, _, rfl⟩ := List.mem_map.1 hd
    refine ⟨[s0, .sh (.int (x : Int)), .sh (.int (y : Int))], rfl, rfl, ?_⟩
    show (if decide ((1 : Int) ≤ (y : Int)) = true then some (PyData.bool (decide ((y : Int) ≤ (x : Int) + 1))) else some (.bool false)) = some (PyData.bool (decide (1 ≤ (y : Int).toNat) && decide ((y : Int).toNat ≤ (x : Int).toNat + 1)))
    rw [Int.toNat_natCast, Int.toNat_natCast]
    by_cases h : 1 ≤ y
    · rw [decide_eq_true (show (1 : Int) ≤ (y : Int) by omega), decide_eq_true h, if_pos rfl, Bool.true_and]
      congr 2
      rw [decide_eq_decide]; omega
    · rw [decide_eq_false (show ¬ (1 : Int) ≤ (y : Int) by omega), decide_eq_false h]; rfl
theorem fit_ok {P : Pl} (w : WF P) : M_depths_fit [.list (encN (P.map (·.1)))] = some (.bool true) := by
  have hl := w.le
  have ne := w.ne
  have e0 : ixD (.list (encN (P.map (·.1)))) (.int 0) = some (.int 0) := by
    have h : (encN (P.map (·.1)))[0]? = some (.int ((dep P 0 : Nat) : Int)) := by
      simp [encN, ne, dep_get ne]
    rw [w.z] at h
    exact atI_nat (j := 0) h
  have e1 : cutX (encN (P.map (·.1))) (some 1) none = (encN (P.map (·.1))).drop 1 := cutX_from _ 1
  have e2 : zipD (encN (P.map (·.1))) ((encN (P.map (·.1))).drop 1) = ((P.map (·.1)).zip ((P.map (·.1)).drop 1)).map fun p => PyData.tuple [.int (p.1 : Int), .int (p.2 : Int)] := by
    unfold zipD encN
    rw [← List.map_drop, List.zip_map, List.map_map]
    rfl
  have e3 : (((P.map (·.1)).zip ((P.map (·.1)).drop 1)).map fun p => PyData.tuple [.int (p.1 : Int), .int (p.2 : Int)]).length ≤ LN := by
    rw [List.length_map, List.length_zip, List.length_map]; show _ ≤ 16777216; omega
  have e5 := @fit_lc (.sh (.list (encN (P.map (·.1))))) ((P.map (·.1)).zip ((P.map (·.1)).drop 1))
  have e4 := allD_map stepOk ((P.map (·.1)).zip ((P.map (·.1)).drop 1))
  have e6 : ((P.map (·.1)).zip ((P.map (·.1)).drop 1)).all stepOk = true := by
    rw [List.all_eq_true]
    intro p hp
    obtain ⟨i, hi, hp⟩ := List.mem_iff_getElem.1 hp
    rw [List.length_zip, List.length_drop, List.length_map] at hi
    have h2 : i + 1 < P.length := by omega
    have := w.up i h2
    rw [dep_get h2, dep_get (by omega)] at this
    rw [← hp]
    simp only [List.getElem_zip, List.getElem_map, List.getElem_drop, stepOk, Nat.add_comm 1 i, Bool.and_eq_true, decide_eq_true_eq]
    exact this
  rw [e6] at e4
  generalize ((P.map (·.1)).zip ((P.map (·.1)).drop 1)).map (PyData.bool ∘ stepOk) = bs at *
  generalize ((P.map (·.1)).zip ((P.map (·.1)).drop 1)).map (fun p => PyData.tuple [.int (p.1 : Int), .int (p.2 : Int)]) = zs at *
  generalize (encN (P.map (·.1))).drop 1 = ds at *
  generalize encN (P.map (·.1)) = es at *
  have e7 : neD (.int 0) (.int 0) = some (.bool false) := rfl
  simp [TL.gSeq, TL.gIf, TL.gSet, TL.gOwn, TL.gRet, TL.gRetF, TL.gRetO, TL.gNx, TL.gNo, TL.gBk, TL.gCt, TL.gAsg, TL.fVar, TL.fC, TL.f2, TL.f1, TL.fCons, TL.fNil, TL.fTup, TL.fLst, TL.fCall, TL.fCallF, TL.fTold, TL.fIf, TL.fAnd, TL.fOr, TL.fNot, TL.fMapD, TL.fB, TL.bOr, TL.bAnd, TL.bNot, TL.bYes, TL.fCh, TL.iSeq, TL.iRg1, TL.iRg2, TL.iEn, TL.iZp, TL.aNm, TL.aTup, TL.aCons, TL.aNil, TL.fSl, TL.pSome, TL.pNo, TL.asI, TL.asN, TL.asB, TL.ent, TL.mV, TL.mF, TL.outV, TL.outF, TL.tyNe, TL.tyEq, TL.tyN, TL.lenD, TL.addD_int, TL.subD_int, TL.ltD_int, TL.leD_int, TL.gtD_int, TL.geD_int, TL.negD_int, TL.eqD_int, TL.neD_int, Function.comp_apply, TL.pur, TL.e2, TL.eTold, TL.eLst, TL.eCons, TL.eNil, TL.eTup, TL.eCall, TL.eCallF, TL.eB, TL.eNot, TL.eOr, TL.eAnd, TL.eIf, TL.eFrz, TL.fFrz, TL.frzE, TL.mgE, TL.gPar, TL.vT, TL.vF, TL.vNil, TL.stE, TL.gSetE, TL.gOwnE, TL.gIfE, TL.gRetE, TL.gRetFE, TL.gAppE, TL.gPutE, TL.gPut, TL.gApp, TL.gAsgE, TL.gDropE, TL.ownE, TL.fIxO, TL.eCallG, TL.eCallGF, TL.agSlot, TL.agVal, TL.agTmp, TL.agNil, TL.okAgs, TL.okSlots, TL.toSV, TL.backE, TL.isOw, TL.apart, TL.mE, TL.mEF, TL.outE, TL.outEF, TL.endE, TL.parE, TL.kpOk, List.range, List.range.loop, TL.gDict0, TL.gDPut, TL.fGetO, TL.odE, TL.keyD, TL.gApp2, TL.ooE, TL.gFrzO, TL.frzOE, TL.fLcO, TL.gOwnO, TL.fStar, TL.fCallK, TL.fCallFK, TL.permL, TL.eLc, TL.gAll, TL.gAllE, TL.fSlO, TL.fFrzL, TL.eFrzL, TL.fT, TL.truD, TL.isNN, M_depths_fit, G_depths_fit, e0, e1, e2, fLc, e3, e4, e5, wipeE, e7]
theorem is_plan {P : Pl} (w : WF P) : M_is_plan [encP P] = some (.bool true) := by
  have hl := w.le
  have ne := w.ne
  have ep : encP P = .list (P.map encR) := rfl
  have e1 : lcG (aNm 1) bYes E_is_plan_1 (P.map encR) [.sh (encP P), .un] = some (P.map (PyData.bool ∘ fun _ => true)) := by
    rw [lcG_map (fun _ => .bool true), List.map_map]
    · rfl
    · intro d hd
      obtain ⟨r, _, rfl⟩ := List.mem_map.1 hd
      refine ⟨[.sh (encP P), .sh (encR r)], rfl, rfl, ?_⟩
      have := row_ok r
      generalize encP P = pl
      generalize encR r = rr at *
      simp [TL.gSeq, TL.gIf, TL.gSet, TL.gOwn, TL.gRet, TL.gRetF, TL.gRetO, TL.gNx, TL.gNo, TL.gBk, TL.gCt, TL.gAsg, TL.fVar, TL.fC, TL.f2, TL.f1, TL.fCons, TL.fNil, TL.fTup, TL.fLst, TL.fCall, TL.fCallF, TL.fTold, TL.fIf, TL.fAnd, TL.fOr, TL.fNot, TL.fMapD, TL.fB, TL.bOr, TL.bAnd, TL.bNot, TL.bYes, TL.fCh, TL.iSeq, TL.iRg1, TL.iRg2, TL.iEn, TL.iZp, TL.aNm, TL.aTup, TL.aCons, TL.aNil, TL.fSl, TL.pSome, TL.pNo, TL.asI, TL.asN, TL.asB, TL.ent, TL.mV, TL.mF, TL.outV, TL.outF, TL.tyNe, TL.tyEq, TL.tyN, TL.lenD, TL.addD_int, TL.subD_int, TL.ltD_int, TL.leD_int, TL.gtD_int, TL.geD_int, TL.negD_int, TL.eqD_int, TL.neD_int, Function.comp_apply, TL.pur, TL.e2, TL.eTold, TL.eLst, TL.eCons, TL.eNil, TL.eTup, TL.eCall, TL.eCallF, TL.eB, TL.eNot, TL.eOr, TL.eAnd, TL.eIf, TL.eFrz, TL.fFrz, TL.frzE, TL.mgE, TL.gPar, TL.vT, TL.vF, TL.vNil, TL.stE, TL.gSetE, TL.gOwnE, TL.gIfE, TL.gRetE, TL.gRetFE, TL.gAppE, TL.gPutE, TL.gPut, TL.gApp, TL.gAsgE, TL.gDropE, TL.ownE, TL.fIxO, TL.eCallG, TL.eCallGF, TL.agSlot, TL.agVal, TL.agTmp, TL.agNil, TL.okAgs, TL.okSlots, TL.toSV, TL.backE, TL.isOw, TL.apart, TL.mE, TL.mEF, TL.outE, TL.outEF, TL.endE, TL.parE, TL.kpOk, List.range, List.range.loop, TL.gDict0, TL.gDPut, TL.fGetO, TL.odE, TL.keyD, TL.gApp2, TL.ooE, TL.gFrzO, TL.frzOE, TL.fLcO, TL.gOwnO, TL.fStar, TL.fCallK, TL.fCallFK, TL.permL, TL.eLc, TL.gAll, TL.gAllE, TL.fSlO, TL.fFrzL, TL.eFrzL, TL.fT, TL.truD, TL.isNN, E_is_plan_1, this]
  have e2 : lcG (aNm 1) bYes E_is_plan_2 (P.map encR) [.sh (encP P), .un] = some (encN (P.map (·.1))) := by
    rw [lcG_map (fun d => match d with | .tuple [x, _] => x | _ => .none), List.map_map]
    · unfold encN; rw [List.map_map]; rfl
    · intro d hd
      obtain ⟨r, _, rfl⟩ := List.mem_map.1 hd
      refine ⟨[.sh (encP P), .sh (encR r)], rfl, rfl, ?_⟩
      exact row0 (.int (r.1 : Nat)) (.str r.2.nm)
  have e3 := allD_map (fun _ : Nat × Kd => true) P
  have e4 : P.all (fun _ => true) = true := by simp
  rw [e4] at e3
  have e5 := fit_ok w
  have l1 : (P.map encR).length = P.length := by simp
  have l2 : P.length ≤ LN := by show _ ≤ 16777216; omega
  rw [ep] at e1 e2 ⊢
  generalize P.map (PyData.bool ∘ fun _ => true) = bs at *
  generalize encN (P.map (·.1)) = es at *
  generalize P.map encR = pl at *
  have l3 : (1 : Int) ≤ (P.length : Int) := by omega
  have l4 : (P.length : Int) ≤ 40 := by omega
  have l5 : 1 ≤ P.length := ne
  simp [TL.gSeq, TL.gIf, TL.gSet, TL.gOwn, TL.gRet, TL.gRetF, TL.gRetO, TL.gNx, TL.gNo, TL.gBk, TL.gCt, TL.gAsg, TL.fVar, TL.fC, TL.f2, TL.f1, TL.fCons, TL.fNil, TL.fTup, TL.fLst, TL.fCall, TL.fCallF, TL.fTold, TL.fIf, TL.fAnd, TL.fOr, TL.fNot, TL.fMapD, TL.fB, TL.bOr, TL.bAnd, TL.bNot, TL.bYes, TL.fCh, TL.iSeq, TL.iRg1, TL.iRg2, TL.iEn, TL.iZp, TL.aNm, TL.aTup, TL.aCons, TL.aNil, TL.fSl, TL.pSome, TL.pNo, TL.asI, TL.asN, TL.asB, TL.ent, TL.mV, TL.mF, TL.outV, TL.outF, TL.tyNe, TL.tyEq, TL.tyN, TL.lenD, TL.addD_int, TL.subD_int, TL.ltD_int, TL.leD_int, TL.gtD_int, TL.geD_int, TL.negD_int, TL.eqD_int, TL.neD_int, Function.comp_apply, TL.pur, TL.e2, TL.eTold, TL.eLst, TL.eCons, TL.eNil, TL.eTup, TL.eCall, TL.eCallF, TL.eB, TL.eNot, TL.eOr, TL.eAnd, TL.eIf, TL.eFrz, TL.fFrz, TL.frzE, TL.mgE, TL.gPar, TL.vT, TL.vF, TL.vNil, TL.stE, TL.gSetE, TL.gOwnE, TL.gIfE, TL.gRetE, TL.gRetFE, TL.gAppE, TL.gPutE, TL.gPut, TL.gApp, TL.gAsgE, TL.gDropE, TL.ownE, TL.fIxO, TL.eCallG, TL.eCallGF, TL.agSlot, TL.agVal, TL.agTmp, TL.agNil, TL.okAgs, TL.okSlots, TL.toSV, TL.backE, TL.isOw, TL.apart, TL.mE, TL.mEF, TL.outE, TL.outEF, TL.endE, TL.parE, TL.kpOk, List.range, List.range.loop, TL.gDict0, TL.gDPut, TL.fGetO, TL.odE, TL.keyD, TL.gApp2, TL.ooE, TL.gFrzO, TL.frzOE, TL.fLcO, TL.gOwnO, TL.fStar, TL.fCallK, TL.fCallFK, TL.permL, TL.eLc, TL.gAll, TL.gAllE, TL.fSlO, TL.fFrzL, TL.eFrzL, TL.fT, TL.truD, TL.isNN, M_is_plan, G_is_plan, d_MOST_SECTIONS, l1, l2, l3, l4, l5, hl, ne, fLc, e1, e2, e3, e5, wipeE]
theorem check_plan {P : Pl} (w : WF P) : M_check_plan [encP P] = some .none := by
  have := is_plan w
  generalize encP P = pl at *
  simp [TL.gSeq, TL.gIf, TL.gSet, TL.gOwn, TL.gRet, TL.gRetF, TL.gRetO, TL.gNx, TL.gNo, TL.gBk, TL.gCt, TL.gAsg, TL.fVar, TL.fC, TL.f2, TL.f1, TL.fCons, TL.fNil, TL.fTup, TL.fLst, TL.fCall, TL.fCallF, TL.fTold, TL.fIf, TL.fAnd, TL.fOr, TL.fNot, TL.fMapD, TL.fB, TL.bOr, TL.bAnd, TL.bNot, TL.bYes, TL.fCh, TL.iSeq, TL.iRg1, TL.iRg2, TL.iEn, TL.iZp, TL.aNm, TL.aTup, TL.aCons, TL.aNil, TL.fSl, TL.pSome, TL.pNo, TL.asI, TL.asN, TL.asB, TL.ent, TL.mV, TL.mF, TL.outV, TL.outF, TL.tyNe, TL.tyEq, TL.tyN, TL.lenD, TL.addD_int, TL.subD_int, TL.ltD_int, TL.leD_int, TL.gtD_int, TL.geD_int, TL.negD_int, TL.eqD_int, TL.neD_int, Function.comp_apply, TL.pur, TL.e2, TL.eTold, TL.eLst, TL.eCons, TL.eNil, TL.eTup, TL.eCall, TL.eCallF, TL.eB, TL.eNot, TL.eOr, TL.eAnd, TL.eIf, TL.eFrz, TL.fFrz, TL.frzE, TL.mgE, TL.gPar, TL.vT, TL.vF, TL.vNil, TL.stE, TL.gSetE, TL.gOwnE, TL.gIfE, TL.gRetE, TL.gRetFE, TL.gAppE, TL.gPutE, TL.gPut, TL.gApp, TL.gAsgE, TL.gDropE, TL.ownE, TL.fIxO, TL.eCallG, TL.eCallGF, TL.agSlot, TL.agVal, TL.agTmp, TL.agNil, TL.okAgs, TL.okSlots, TL.toSV, TL.backE, TL.isOw, TL.apart, TL.mE, TL.mEF, TL.outE, TL.outEF, TL.endE, TL.parE, TL.kpOk, List.range, List.range.loop, TL.gDict0, TL.gDPut, TL.fGetO, TL.odE, TL.keyD, TL.gApp2, TL.ooE, TL.gFrzO, TL.frzOE, TL.fLcO, TL.gOwnO, TL.fStar, TL.fCallK, TL.fCallFK, TL.permL, TL.eLc, TL.gAll, TL.gAllE, TL.fSlO, TL.fFrzL, TL.eFrzL, TL.fT, TL.truD, TL.isNN, M_check_plan, G_check_plan, this]
theorem set_lc {s0 s1 s2 : SV} (ps : List (D × List Nat)) : lcG (aTup 2 (aCons (aNm 3) (aCons (aNm 4) aNil))) bYes E_has_settings_1 (ps.map fun p => PyData.tuple [p.1, .list (encN p.2)]) [s0, s1, s2, .un, .un] = some (ps.map (PyData.bool ∘ fun p => okOne p.2 p.1)) := by
  rw [lcG_map (fun d => match d with | .tuple [.int n, .list g] => .bool (g.any fun y => PyData.eqv y (.int n)) | _ => .bool false), List.map_map]
  · congr 1
    apply List.map_congr_left
    rintro ⟨d, c⟩ _
    cases d <;> rfl
  · intro d hd
    obtain ⟨⟨x, c⟩, _, rfl⟩ := List.mem_map.1 hd
    refine ⟨[s0, s1, s2, .sh x, .sh (.list (encN c))], rfl, rfl, ?_⟩
    have h1 := whole x
    have h2 := fun n => inD_enc n c
    generalize encN c = g at *
    cases x <;> simp [TL.gSeq, TL.gIf, TL.gSet, TL.gOwn, TL.gRet, TL.gRetF, TL.gRetO, TL.gNx, TL.gNo, TL.gBk, TL.gCt, TL.gAsg, TL.fVar, TL.fC, TL.f2, TL.f1, TL.fCons, TL.fNil, TL.fTup, TL.fLst, TL.fCall, TL.fCallF, TL.fTold, TL.fIf, TL.fAnd, TL.fOr, TL.fNot, TL.fMapD, TL.fB, TL.bOr, TL.bAnd, TL.bNot, TL.bYes, TL.fCh, TL.iSeq, TL.iRg1, TL.iRg2, TL.iEn, TL.iZp, TL.aNm, TL.aTup, TL.aCons, TL.aNil, TL.fSl, TL.pSome, TL.pNo, TL.asI, TL.asN, TL.asB, TL.ent, TL.mV, TL.mF, TL.outV, TL.outF, TL.tyNe, TL.tyEq, TL.tyN, TL.lenD, TL.addD_int, TL.subD_int, TL.ltD_int, TL.leD_int, TL.gtD_int, TL.geD_int, TL.negD_int, TL.eqD_int, TL.neD_int, Function.comp_apply, TL.pur, TL.e2, TL.eTold, TL.eLst, TL.eCons, TL.eNil, TL.eTup, TL.eCall, TL.eCallF, TL.eB, TL.eNot, TL.eOr, TL.eAnd, TL.eIf, TL.eFrz, TL.fFrz, TL.frzE, TL.mgE, TL.gPar, TL.vT, TL.vF, TL.vNil, TL.stE, TL.gSetE, TL.gOwnE, TL.gIfE, TL.gRetE, TL.gRetFE, TL.gAppE, TL.gPutE, TL.gPut, TL.gApp, TL.gAsgE, TL.gDropE, TL.ownE, TL.fIxO, TL.eCallG, TL.eCallGF, TL.agSlot, TL.agVal, TL.agTmp, TL.agNil, TL.okAgs, TL.okSlots, TL.toSV, TL.backE, TL.isOw, TL.apart, TL.mE, TL.mEF, TL.outE, TL.outEF, TL.endE, TL.parE, TL.kpOk, List.range, List.range.loop, TL.gDict0, TL.gDPut, TL.fGetO, TL.odE, TL.keyD, TL.gApp2, TL.ooE, TL.gFrzO, TL.frzOE, TL.fLcO, TL.gOwnO, TL.fStar, TL.fCallK, TL.fCallFK, TL.permL, TL.eLc, TL.gAll, TL.gAllE, TL.fSlO, TL.fFrzL, TL.eFrzL, TL.fT, TL.truD, TL.isNN, E_has_settings_1, h1, h2]
theorem has_settings {P : Pl} (w : WF P) (d : D) : M_has_settings [encP P, d] = some (.bool (stOk (chos P) d)) := by
  have hl := w.le
  have e := all_choices w
  have ep : encP P = .list (P.map encR) := rfl
  have lp : (P.map encR).length = P.length := by simp
  cases d with
  | list xs =>
    by_cases h : xs.length = P.length
    · have hz := zip_enc xs (chos P)
      have hs := @set_lc (.sh (encP P)) (.sh (.list xs)) (.sh (.list ((chos P).map fun c => .list (encN c)))) (xs.zip (chos P))
      have ha := allD_map (fun p : D × List Nat => okOne p.2 p.1) (xs.zip (chos P))
      have hlz : ((xs.zip (chos P)).map fun p => PyData.tuple [p.1, .list (encN p.2)]).length ≤ LN := by
        rw [List.length_map, List.length_zip]; show _ ≤ 16777216; omega
      have hst : stOk (chos P) (.list xs) = (xs.zip (chos P)).all fun p => okOne p.2 p.1 := by
        show (decide (xs.length = (chos P).length) && _) = _
        rw [chos_len, decide_eq_true h, Bool.true_and]; rfl
      rw [hst]
      rw [ep] at e hs ⊢
      generalize (xs.zip (chos P)).map (PyData.bool ∘ fun p => okOne p.2 p.1) = bs at *
      generalize (xs.zip (chos P)).map (fun p => PyData.tuple [p.1, .list (encN p.2)]) = zs at *
      generalize ((xs.zip (chos P)).all fun p => okOne p.2 p.1) = b at *
      generalize (chos P).map (fun c => PyData.list (encN c)) = cs at *
      generalize P.map encR = pl at *
      have e7 : neD (.int (P.length : Int)) (.int (P.length : Int)) = some (.bool false) := by rw [neD_int, decide_eq_true rfl]; rfl
      simp [TL.gSeq, TL.gIf, TL.gSet, TL.gOwn, TL.gRet, TL.gRetF, TL.gRetO, TL.gNx, TL.gNo, TL.gBk, TL.gCt, TL.gAsg, TL.fVar, TL.fC, TL.f2, TL.f1, TL.fCons, TL.fNil, TL.fTup, TL.fLst, TL.fCall, TL.fCallF, TL.fTold, TL.fIf, TL.fAnd, TL.fOr, TL.fNot, TL.fMapD, TL.fB, TL.bOr, TL.bAnd, TL.bNot, TL.bYes, TL.fCh, TL.iSeq, TL.iRg1, TL.iRg2, TL.iEn, TL.iZp, TL.aNm, TL.aTup, TL.aCons, TL.aNil, TL.fSl, TL.pSome, TL.pNo, TL.asI, TL.asN, TL.asB, TL.ent, TL.mV, TL.mF, TL.outV, TL.outF, TL.tyNe, TL.tyEq, TL.tyN, TL.lenD, TL.addD_int, TL.subD_int, TL.ltD_int, TL.leD_int, TL.gtD_int, TL.geD_int, TL.negD_int, TL.eqD_int, TL.neD_int, Function.comp_apply, TL.pur, TL.e2, TL.eTold, TL.eLst, TL.eCons, TL.eNil, TL.eTup, TL.eCall, TL.eCallF, TL.eB, TL.eNot, TL.eOr, TL.eAnd, TL.eIf, TL.eFrz, TL.fFrz, TL.frzE, TL.mgE, TL.gPar, TL.vT, TL.vF, TL.vNil, TL.stE, TL.gSetE, TL.gOwnE, TL.gIfE, TL.gRetE, TL.gRetFE, TL.gAppE, TL.gPutE, TL.gPut, TL.gApp, TL.gAsgE, TL.gDropE, TL.ownE, TL.fIxO, TL.eCallG, TL.eCallGF, TL.agSlot, TL.agVal, TL.agTmp, TL.agNil, TL.okAgs, TL.okSlots, TL.toSV, TL.backE, TL.isOw, TL.apart, TL.mE, TL.mEF, TL.outE, TL.outEF, TL.endE, TL.parE, TL.kpOk, List.range, List.range.loop, TL.gDict0, TL.gDPut, TL.fGetO, TL.odE, TL.keyD, TL.gApp2, TL.ooE, TL.gFrzO, TL.frzOE, TL.fLcO, TL.gOwnO, TL.fStar, TL.fCallK, TL.fCallFK, TL.permL, TL.eLc, TL.gAll, TL.gAllE, TL.fSlO, TL.fFrzL, TL.eFrzL, TL.fT, TL.truD, TL.isNN, M_has_settings, G_has_settings, h, lp, e7, e, hz, fLc, hlz, hs, ha, wipeE]
    · have hst : stOk (chos P) (.list xs) = false := by
        show (decide (xs.length = (chos P).length) && _) = _
        rw [chos_len, decide_eq_false h]; rfl
      rw [hst, ep]
      generalize P.map encR = pl at *
      have e7 : neD (.int (xs.length : Int)) (.int (P.length : Int)) = some (.bool true) := by rw [neD_int, decide_eq_false (by omega)]; rfl
      simp [TL.gSeq, TL.gIf, TL.gSet, TL.gOwn, TL.gRet, TL.gRetF, TL.gRetO, TL.gNx, TL.gNo, TL.gBk, TL.gCt, TL.gAsg, TL.fVar, TL.fC, TL.f2, TL.f1, TL.fCons, TL.fNil, TL.fTup, TL.fLst, TL.fCall, TL.fCallF, TL.fTold, TL.fIf, TL.fAnd, TL.fOr, TL.fNot, TL.fMapD, TL.fB, TL.bOr, TL.bAnd, TL.bNot, TL.bYes, TL.fCh, TL.iSeq, TL.iRg1, TL.iRg2, TL.iEn, TL.iZp, TL.aNm, TL.aTup, TL.aCons, TL.aNil, TL.fSl, TL.pSome, TL.pNo, TL.asI, TL.asN, TL.asB, TL.ent, TL.mV, TL.mF, TL.outV, TL.outF, TL.tyNe, TL.tyEq, TL.tyN, TL.lenD, TL.addD_int, TL.subD_int, TL.ltD_int, TL.leD_int, TL.gtD_int, TL.geD_int, TL.negD_int, TL.eqD_int, TL.neD_int, Function.comp_apply, TL.pur, TL.e2, TL.eTold, TL.eLst, TL.eCons, TL.eNil, TL.eTup, TL.eCall, TL.eCallF, TL.eB, TL.eNot, TL.eOr, TL.eAnd, TL.eIf, TL.eFrz, TL.fFrz, TL.frzE, TL.mgE, TL.gPar, TL.vT, TL.vF, TL.vNil, TL.stE, TL.gSetE, TL.gOwnE, TL.gIfE, TL.gRetE, TL.gRetFE, TL.gAppE, TL.gPutE, TL.gPut, TL.gApp, TL.gAsgE, TL.gDropE, TL.ownE, TL.fIxO, TL.eCallG, TL.eCallGF, TL.agSlot, TL.agVal, TL.agTmp, TL.agNil, TL.okAgs, TL.okSlots, TL.toSV, TL.backE, TL.isOw, TL.apart, TL.mE, TL.mEF, TL.outE, TL.outEF, TL.endE, TL.parE, TL.kpOk, List.range, List.range.loop, TL.gDict0, TL.gDPut, TL.fGetO, TL.odE, TL.keyD, TL.gApp2, TL.ooE, TL.gFrzO, TL.frzOE, TL.fLcO, TL.gOwnO, TL.fStar, TL.fCallK, TL.fCallFK, TL.permL, TL.eLc, TL.gAll, TL.gAllE, TL.fSlO, TL.fFrzL, TL.eFrzL, TL.fT, TL.truD, TL.isNN, M_has_settings, G_has_settings, h, lp, e7]
  | _ =>
    show _ = some (PyData.bool false)
    generalize encP P = pl
    rfl
theorem check_state {P : Pl} (w : WF P) {xs : List Nat} (hx : IsSt P xs) : M_check_state [encP P, .list (encN xs)] = some .none := by
  have h := has_settings w (.list (encN xs))
  rw [st_true hx] at h
  generalize encP P = pl at *
  generalize encN xs = es at *
  simp [TL.gSeq, TL.gIf, TL.gSet, TL.gOwn, TL.gRet, TL.gRetF, TL.gRetO, TL.gNx, TL.gNo, TL.gBk, TL.gCt, TL.gAsg, TL.fVar, TL.fC, TL.f2, TL.f1, TL.fCons, TL.fNil, TL.fTup, TL.fLst, TL.fCall, TL.fCallF, TL.fTold, TL.fIf, TL.fAnd, TL.fOr, TL.fNot, TL.fMapD, TL.fB, TL.bOr, TL.bAnd, TL.bNot, TL.bYes, TL.fCh, TL.iSeq, TL.iRg1, TL.iRg2, TL.iEn, TL.iZp, TL.aNm, TL.aTup, TL.aCons, TL.aNil, TL.fSl, TL.pSome, TL.pNo, TL.asI, TL.asN, TL.asB, TL.ent, TL.mV, TL.mF, TL.outV, TL.outF, TL.tyNe, TL.tyEq, TL.tyN, TL.lenD, TL.addD_int, TL.subD_int, TL.ltD_int, TL.leD_int, TL.gtD_int, TL.geD_int, TL.negD_int, TL.eqD_int, TL.neD_int, Function.comp_apply, TL.pur, TL.e2, TL.eTold, TL.eLst, TL.eCons, TL.eNil, TL.eTup, TL.eCall, TL.eCallF, TL.eB, TL.eNot, TL.eOr, TL.eAnd, TL.eIf, TL.eFrz, TL.fFrz, TL.frzE, TL.mgE, TL.gPar, TL.vT, TL.vF, TL.vNil, TL.stE, TL.gSetE, TL.gOwnE, TL.gIfE, TL.gRetE, TL.gRetFE, TL.gAppE, TL.gPutE, TL.gPut, TL.gApp, TL.gAsgE, TL.gDropE, TL.ownE, TL.fIxO, TL.eCallG, TL.eCallGF, TL.agSlot, TL.agVal, TL.agTmp, TL.agNil, TL.okAgs, TL.okSlots, TL.toSV, TL.backE, TL.isOw, TL.apart, TL.mE, TL.mEF, TL.outE, TL.outEF, TL.endE, TL.parE, TL.kpOk, List.range, List.range.loop, TL.gDict0, TL.gDPut, TL.fGetO, TL.odE, TL.keyD, TL.gApp2, TL.ooE, TL.gFrzO, TL.frzOE, TL.fLcO, TL.gOwnO, TL.fStar, TL.fCallK, TL.fCallFK, TL.permL, TL.eLc, TL.gAll, TL.gAllE, TL.fSlO, TL.fFrzL, TL.eFrzL, TL.fT, TL.truD, TL.isNN, TL.gExt, TL.asL, TL.gOoL, TL.allF, TL.fFrzO, TL.bFrzO, TL.gForApp, TL.fStp, TL.gPop, TL.divmodD, TL.fLrg, TL.eSlTo, TL.flatD, TL.bFrz, TL.gFrz, TL.fFrzL, TL.gRevO, TL.gClear, TL.gPopAt, TL.gIns, TL.ePop, TL.gAug, TL.gForE, TL.jSeq, TL.jRg1, TL.jRg2, TL.jEn, TL.iRg3, TL.iRvR, TL.vS, TL.fIxOd, TL.fGetO, TL.fDin, TL.fDinN, TL.odE, TL.gFrzD, TL.frzDE, TL.fKeys, TL.fVals, TL.fPairs, TL.f3, M_check_state, G_check_state, h]
theorem draw_s {n : Nat} {xs : List D} {m : Int} (h : IsSrc n xs) (hn : n ≤ 1000000) (h1 : 1 ≤ m) (h2 : m < 2 ^ 60) :
    ∃ r ys, M_law_draw [.ow xs, .sh (.int m)] = some (.int r, [.ow ys, .sh (.int m)]) ∧ 0 ≤ r ∧ r < m ∧ IsSrc (n + 1) ys := by
  obtain ⟨a, b, c, rfl, ha, hb, hb2, hc, hc2⟩ := h
  have g0 : ∀ x y z : Int, atI [PyData.int x, .int y, .int z] 0 = some (.int x) := fun x y z => atI_nat (j := 0) rfl
  have g1 : ∀ x y z : Int, atI [PyData.int x, .int y, .int z] 1 = some (.int y) := fun x y z => atI_nat (j := 1) rfl
  have g2 : ∀ x y z : Int, atI [PyData.int x, .int y, .int z] 2 = some (.int z) := fun x y z => atI_nat (j := 2) rfl
  have i0 : ixN 3 0 = some 0 := rfl
  have i2 : ixN 3 2 = some 2 := rfl
  have p38 := pow38
  have p39 := pow39
  have e1 : mulD (.int 910003) (.int (c + 1)) = some (.int (910003 * (c + 1))) := mulD_int (lt230 (by decide +kernel)) (lt230 (by omega))
  have e3 : powD (.int (b + 910003 * (c + 1))) (.int 3) = some (.int ((b + 910003 * (c + 1)) ^ 3)) := powD_int (n := 3) (lt230 (by omega)) (by decide)
  generalize (b + 910003 * (c + 1)) ^ 3 = t1 at e3
  have e4 : modD (.int t1) (.int 100000000000000000000000000000000000133) = some (.int (t1 % 100000000000000000000000000000000000133)) := modD_int (by decide)
  have s1 := Int.emod_nonneg t1 (show (100000000000000000000000000000000000133 : Int) ≠ 0 by decide)
  have s2 := Int.emod_lt_of_pos t1 (show (0 : Int) < 100000000000000000000000000000000000133 by decide)
  generalize t1 % 100000000000000000000000000000000000133 = t2 at e4 s1 s2
  have e5 : mulD (.int 73) (.int (c + 1)) = some (.int (73 * (c + 1))) := mulD_int (lt230 (by decide +kernel)) (lt230 (by omega))
  have e6 : powD (.int (t2 + 73 * (c + 1))) (.int 3) = some (.int ((t2 + 73 * (c + 1)) ^ 3)) := powD_int (n := 3) (lt230 (by omega)) (by decide)
  generalize (t2 + 73 * (c + 1)) ^ 3 = t3 at e6
  have e7 : modD (.int t3) (.int 1000000000000000000000000000000000000003) = some (.int (t3 % 1000000000000000000000000000000000000003)) := modD_int (by decide)
  generalize t3 % 1000000000000000000000000000000000000003 = t4 at e7
  have e8 : divD (.int t4) (.int 65617) = some (.int (t4 / 65617)) := divD_int (by decide) (by decide)
  generalize t4 / 65617 = t5 at e8
  have e9 : modD (.int t5) (.int m) = some (.int (t5 % m)) := modD_int (by omega)
  have v1 := Int.emod_nonneg t5 (show m ≠ 0 by omega)
  have v3 := Int.emod_lt_of_pos t5 (show 0 < m by omega)
  generalize t5 % m = v4 at e9 v1 v3
  have e10 : modD (.int a) (.int m) = some (.int (a % m)) := modD_int (by omega)
  have w1 := Int.emod_nonneg a (show m ≠ 0 by omega)
  have w3 := Int.emod_lt_of_pos a (show 0 < m by omega)
  have e11 : divD (.int a) (.int m) = some (.int (a / m)) := divD_int (by omega) (by omega)
  have w4 : 0 ≤ a / m := Int.ediv_nonneg ha (by omega)
  generalize a % m = a1 at e10 w1 w3
  generalize a / m = a2 at e11 w4
  by_cases hp : 0 < a
  · refine ⟨a1, [.int a2, .int b, .int c], ?_, w1, w3, ⟨a2, b, c, rfl, w4, hb, hb2, by omega, by omega⟩⟩
    simp [TL.gSeq, TL.gIf, TL.gSet, TL.gOwn, TL.gRet, TL.gRetF, TL.gRetO, TL.gNx, TL.gNo, TL.gBk, TL.gCt, TL.gAsg, TL.fVar, TL.fC, TL.f2, TL.f1, TL.fCons, TL.fNil, TL.fTup, TL.fLst, TL.fCall, TL.fCallF, TL.fTold, TL.fIf, TL.fAnd, TL.fOr, TL.fNot, TL.fMapD, TL.fB, TL.bOr, TL.bAnd, TL.bNot, TL.bYes, TL.fCh, TL.iSeq, TL.iRg1, TL.iRg2, TL.iEn, TL.iZp, TL.aNm, TL.aTup, TL.aCons, TL.aNil, TL.fSl, TL.pSome, TL.pNo, TL.asI, TL.asN, TL.asB, TL.ent, TL.mV, TL.mF, TL.outV, TL.outF, TL.tyNe, TL.tyEq, TL.tyN, TL.lenD, TL.addD_int, TL.subD_int, TL.ltD_int, TL.leD_int, TL.gtD_int, TL.geD_int, TL.negD_int, TL.eqD_int, TL.neD_int, Function.comp_apply, TL.pur, TL.e2, TL.eTold, TL.eLst, TL.eCons, TL.eNil, TL.eTup, TL.eCall, TL.eCallF, TL.eB, TL.eNot, TL.eOr, TL.eAnd, TL.eIf, TL.eFrz, TL.fFrz, TL.frzE, TL.mgE, TL.gPar, TL.vT, TL.vF, TL.vNil, TL.stE, TL.gSetE, TL.gOwnE, TL.gIfE, TL.gRetE, TL.gRetFE, TL.gAppE, TL.gPutE, TL.gPut, TL.gApp, TL.gAsgE, TL.gDropE, TL.ownE, TL.fIxO, TL.eCallG, TL.eCallGF, TL.agSlot, TL.agVal, TL.agTmp, TL.agNil, TL.okAgs, TL.okSlots, TL.toSV, TL.backE, TL.isOw, TL.apart, TL.mE, TL.mEF, TL.outE, TL.outEF, TL.endE, TL.parE, TL.kpOk, List.range, List.range.loop, M_law_draw, G_law_draw, g0, g1, g2, i0, i2, e10, e11, hp]
  · refine ⟨v4, [.int a, .int b, .int (c + 1)], ?_, v1, v3, ⟨a, b, c + 1, rfl, ha, hb, hb2, by omega, by omega⟩⟩
    simp [TL.gSeq, TL.gIf, TL.gSet, TL.gOwn, TL.gRet, TL.gRetF, TL.gRetO, TL.gNx, TL.gNo, TL.gBk, TL.gCt, TL.gAsg, TL.fVar, TL.fC, TL.f2, TL.f1, TL.fCons, TL.fNil, TL.fTup, TL.fLst, TL.fCall, TL.fCallF, TL.fTold, TL.fIf, TL.fAnd, TL.fOr, TL.fNot, TL.fMapD, TL.fB, TL.bOr, TL.bAnd, TL.bNot, TL.bYes, TL.fCh, TL.iSeq, TL.iRg1, TL.iRg2, TL.iEn, TL.iZp, TL.aNm, TL.aTup, TL.aCons, TL.aNil, TL.fSl, TL.pSome, TL.pNo, TL.asI, TL.asN, TL.asB, TL.ent, TL.mV, TL.mF, TL.outV, TL.outF, TL.tyNe, TL.tyEq, TL.tyN, TL.lenD, TL.addD_int, TL.subD_int, TL.ltD_int, TL.leD_int, TL.gtD_int, TL.geD_int, TL.negD_int, TL.eqD_int, TL.neD_int, Function.comp_apply, TL.pur, TL.e2, TL.eTold, TL.eLst, TL.eCons, TL.eNil, TL.eTup, TL.eCall, TL.eCallF, TL.eB, TL.eNot, TL.eOr, TL.eAnd, TL.eIf, TL.eFrz, TL.fFrz, TL.frzE, TL.mgE, TL.gPar, TL.vT, TL.vF, TL.vNil, TL.stE, TL.gSetE, TL.gOwnE, TL.gIfE, TL.gRetE, TL.gRetFE, TL.gAppE, TL.gPutE, TL.gPut, TL.gApp, TL.gAsgE, TL.gDropE, TL.ownE, TL.fIxO, TL.eCallG, TL.eCallGF, TL.agSlot, TL.agVal, TL.agTmp, TL.agNil, TL.okAgs, TL.okSlots, TL.toSV, TL.backE, TL.isOw, TL.apart, TL.mE, TL.mEF, TL.outE, TL.outEF, TL.endE, TL.parE, TL.kpOk, List.range, List.range.loop, M_law_draw, G_law_draw, g0, g1, g2, i0, i2, p38, p39, e1, e3, e4, e5, e6, e7, e8, e9, hp]
theorem source_s (c : Int) (k : Nat) (hk : k ≤ 100) : ∃ xs, M_law_source [.int c, .int (k : Int)] = some xs ∧ IsSrc 0 xs := by
  have p1 : powD (.int 10) (.int 18) = some (.int 1000000000000000000) := powD_int (n := 18) (by decide +kernel) (by decide)
  have p2 : powD (.int 10) (.int 35) = some (.int 100000000000000000000000000000000000) := powD_int (n := 35) (by decide +kernel) (by decide)
  have e1 : modD (.int c) (.int 100000000000000000000000000000000069) = some (.int (c % 100000000000000000000000000000000069)) := modD_int (by decide)
  have u1 := Int.emod_nonneg c (show (100000000000000000000000000000000069 : Int) ≠ 0 by decide)
  have u2 := Int.emod_lt_of_pos c (show (0 : Int) < 100000000000000000000000000000000069 by decide)
  generalize c % 100000000000000000000000000000000069 = d at e1 u1 u2
  have e3 : mulD (.int d) (.int 97) = some (.int (d * 97)) := mulD_int (lt230 (by omega)) (lt230 (by decide +kernel))
  obtain ⟨m, hm, hm1⟩ : ∃ m : Int, maxD [.int 0, .int (c - 1000000000000000000)] = some (.int m) ∧ 0 ≤ m := by
    refine ⟨_, maxD_int _ _, ?_⟩; split <;> omega
  have l3 : (3 : Nat) ≤ LN := by decide
  refine ⟨[.int m, .int (d * 97 + (k : Int)), .int 0], ?_, m, d * 97 + (k : Int), 0, rfl, hm1, by omega, by omega, by omega, by omega⟩
  generalize (k : Int) = kk at *
  simp [TL.gSeq, TL.gIf, TL.gSet, TL.gOwn, TL.gRet, TL.gRetF, TL.gRetO, TL.gNx, TL.gNo, TL.gBk, TL.gCt, TL.gAsg, TL.fVar, TL.fC, TL.f2, TL.f1, TL.fCons, TL.fNil, TL.fTup, TL.fLst, TL.fCall, TL.fCallF, TL.fTold, TL.fIf, TL.fAnd, TL.fOr, TL.fNot, TL.fMapD, TL.fB, TL.bOr, TL.bAnd, TL.bNot, TL.bYes, TL.fCh, TL.iSeq, TL.iRg1, TL.iRg2, TL.iEn, TL.iZp, TL.aNm, TL.aTup, TL.aCons, TL.aNil, TL.fSl, TL.pSome, TL.pNo, TL.asI, TL.asN, TL.asB, TL.ent, TL.mV, TL.mF, TL.outV, TL.outF, TL.tyNe, TL.tyEq, TL.tyN, TL.lenD, TL.addD_int, TL.subD_int, TL.ltD_int, TL.leD_int, TL.gtD_int, TL.geD_int, TL.negD_int, TL.eqD_int, TL.neD_int, Function.comp_apply, TL.pur, TL.e2, TL.eTold, TL.eLst, TL.eCons, TL.eNil, TL.eTup, TL.eCall, TL.eCallF, TL.eB, TL.eNot, TL.eOr, TL.eAnd, TL.eIf, TL.eFrz, TL.fFrz, TL.frzE, TL.mgE, TL.gPar, TL.vT, TL.vF, TL.vNil, TL.stE, TL.gSetE, TL.gOwnE, TL.gIfE, TL.gRetE, TL.gRetFE, TL.gAppE, TL.gPutE, TL.gPut, TL.gApp, TL.gAsgE, TL.gDropE, TL.ownE, TL.fIxO, TL.eCallG, TL.eCallGF, TL.agSlot, TL.agVal, TL.agTmp, TL.agNil, TL.okAgs, TL.okSlots, TL.toSV, TL.backE, TL.isOw, TL.apart, TL.mE, TL.mEF, TL.outE, TL.outEF, TL.endE, TL.parE, TL.kpOk, List.range, List.range.loop, TL.gDict0, TL.gDPut, TL.fGetO, TL.odE, TL.keyD, TL.gApp2, TL.ooE, TL.gFrzO, TL.frzOE, TL.fLcO, TL.gOwnO, TL.fStar, TL.fCallK, TL.fCallFK, TL.permL, TL.eLc, TL.gAll, TL.gAllE, TL.fSlO, TL.fFrzL, TL.eFrzL, TL.fT, TL.truD, TL.isNN, TL.gExt, TL.asL, TL.gOoL, TL.allF, TL.fFrzO, TL.bFrzO, TL.gForApp, TL.fStp, TL.gPop, TL.divmodD, TL.fLrg, TL.eSlTo, TL.flatD, TL.bFrz, TL.gFrz, TL.fFrzL, TL.gRevO, TL.gClear, TL.gPopAt, TL.gIns, TL.ePop, TL.gAug, TL.gForE, TL.jSeq, TL.jRg1, TL.jRg2, TL.jEn, TL.iRg3, TL.iRvR, TL.vS, TL.fIxOd, TL.fGetO, TL.fDin, TL.fDinN, TL.odE, TL.gFrzD, TL.frzDE, TL.fKeys, TL.fVals, TL.fPairs, TL.f3, M_law_source, G_law_source, p1, p2, e1, e3, hm, l3]
theorem page_step {P : Pl} (w : WF P) (hl : P.length < 40) {n : Nat} {ps : List D} (hp : IsSrc n ps) (hn : n ≤ 900000) {style : Int} (c0 : 0 ≤ style) (c1 : style < 5) {k : Int} (hk : 0 ≤ k) (hi : style = 4 → 1 + k % 2 ≤ (dep P (P.length - 1) : Int) + 1) {s1 s2 s6 s7 : SV} :
    ∃ P' qs t6 t7, B_law_page_1 [.ow ps, s1, s2, .sh (.int k), .sh (.int style), .ow (P.map encR), s6, s7] = some (.nx [.ow qs, s1, s2, .sh (.int k), .sh (.int style), .ow (P'.map encR), t6, t7]) ∧ WF P' ∧ P'.length = P.length + 1 ∧ IsSrc (n + 3) qs ∧ (style = 4 → 1 + (k + 1) % 2 ≤ (dep P' (P'.length - 1) : Int) + 1) := by
  obtain ⟨kl, e0⟩ := encP_last w.ne
  have e1 := row0 (.int (dep P (P.length - 1) : Nat)) (.str kl.nm)
  have dl := dep_le w (P.length - 1) (by have := w.ne; omega)
  generalize hdp : ((dep P (P.length - 1) : Nat) : Int) = dp at *
  obtain ⟨r, q1, d1, r0, r1, hp1⟩ := draw_s (m := dp + 1) hp (by omega) (by omega) (by omega)
  obtain ⟨r', q2, d2, r0', r1', hp2⟩ := draw_s (m := 3) hp1 (by omega) (by omega) (by omega)
  obtain ⟨mm, m2, mm1, mm2⟩ : ∃ m : Int, maxD [.int 1, .int (dp + 1 - r')] = some (.int m) ∧ 1 ≤ m ∧ m ≤ dp + 1 := by
    refine ⟨_, maxD_int _ _, ?_, ?_⟩ <;> split <;> omega
  have o1 : modD (.int k) (.int 2) = some (.int (k % 2)) := modD_int (by decide)
  have k0 := Int.emod_nonneg k (show (2 : Int) ≠ 0 by decide)
  obtain ⟨v, hv1, hv2, hv4, ev⟩ : ∃ v : Int, 1 ≤ v ∧ v ≤ dp + 1 ∧ (style = 4 → v = 1 + k % 2) ∧ ixD (.list [.int (dp + 1), .int 1, .int (1 + r), .int mm, .int (1 + k % 2)]) (.int style) = some (.int v) := by
    have hs : style = 0 ∨ style = 1 ∨ style = 2 ∨ style = 3 ∨ style = 4 := by omega
    rcases hs with rfl | rfl | rfl | rfl | rfl
    · exact ⟨_, by omega, by omega, fun z => by omega, atI_nat (j := 0) rfl⟩
    · exact ⟨_, by omega, by omega, fun z => by omega, atI_nat (j := 1) rfl⟩
    · exact ⟨_, by omega, by omega, fun z => by omega, atI_nat (j := 2) rfl⟩
    · exact ⟨_, by omega, by omega, fun z => by omega, atI_nat (j := 3) rfl⟩
    · exact ⟨_, by omega, hi rfl, fun z => rfl, atI_nat (j := 4) rfl⟩
  obtain ⟨u, hu⟩ : ∃ u : Nat, v = (u : Int) := ⟨v.toNat, by omega⟩
  subst hu
  obtain ⟨r3, q3, d3, r30, r31, hp3⟩ := draw_s (m := 3) hp2 (by omega) (by omega) (by omega)
  obtain ⟨kd, ek⟩ := kind3 r30 r31
  have l2 : (2 : Nat) ≤ LN := by decide
  have l3 : (3 : Nat) ≤ LN := by decide
  have l5 : (5 : Nat) ≤ LN := by decide
  have lf : (P.map encR).length < LN := by rw [List.length_map]; show _ < 16777216; omega
  have w' := w.app (r := (u, kd)) (show 1 ≤ u by omega) (show u ≤ dep P (P.length - 1) + 1 by omega) hl
  refine ⟨P ++ [(u, kd)], q3, .sh (.int dp), .sh (.list [.int (dp + 1), .int 1, .int (1 + r), .int mm, .int (1 + k % 2)]), ?_, w', by simp, hp3, fun z => ?_⟩
  · rw [List.map_append]
    have er : [(u, kd)].map encR = [PyData.tuple [.int (u : Int), .str kd.nm]] := rfl
    rw [er]
    generalize P.map encR = pl at *
    generalize hmo : k % 2 = k2 at *
    generalize hwl : PyData.list [.int (dp + 1), .int 1, .int (1 + r), .int mm, .int (1 + k2)] = wl at *
    unfold B_law_page_1
    refine (gSeq_nx (e' := [.ow ps, s1, s2, .sh (.int k), .sh (.int style), .ow pl, .sh (.int dp), s7]) (by simp [TL.gSeq, TL.gIf, TL.gSet, TL.gOwn, TL.gRet, TL.gRetF, TL.gRetO, TL.gNx, TL.gNo, TL.gBk, TL.gCt, TL.gAsg, TL.fVar, TL.fC, TL.f2, TL.f1, TL.fCons, TL.fNil, TL.fTup, TL.fLst, TL.fCall, TL.fCallF, TL.fTold, TL.fIf, TL.fAnd, TL.fOr, TL.fNot, TL.fMapD, TL.fB, TL.bOr, TL.bAnd, TL.bNot, TL.bYes, TL.fCh, TL.iSeq, TL.iRg1, TL.iRg2, TL.iEn, TL.iZp, TL.aNm, TL.aTup, TL.aCons, TL.aNil, TL.fSl, TL.pSome, TL.pNo, TL.asI, TL.asN, TL.asB, TL.ent, TL.mV, TL.mF, TL.outV, TL.outF, TL.tyNe, TL.tyEq, TL.tyN, TL.lenD, TL.addD_int, TL.subD_int, TL.ltD_int, TL.leD_int, TL.gtD_int, TL.geD_int, TL.negD_int, TL.eqD_int, TL.neD_int, Function.comp_apply, TL.pur, TL.e2, TL.eTold, TL.eLst, TL.eCons, TL.eNil, TL.eTup, TL.eCall, TL.eCallF, TL.eB, TL.eNot, TL.eOr, TL.eAnd, TL.eIf, TL.eFrz, TL.fFrz, TL.frzE, TL.mgE, TL.gPar, TL.vT, TL.vF, TL.vNil, TL.stE, TL.gSetE, TL.gOwnE, TL.gIfE, TL.gRetE, TL.gRetFE, TL.gAppE, TL.gPutE, TL.gPut, TL.gApp, TL.gAsgE, TL.gDropE, TL.ownE, TL.fIxO, TL.eCallG, TL.eCallGF, TL.agSlot, TL.agVal, TL.agTmp, TL.agNil, TL.okAgs, TL.okSlots, TL.toSV, TL.backE, TL.isOw, TL.apart, TL.mE, TL.mEF, TL.outE, TL.outEF, TL.endE, TL.parE, TL.kpOk, List.range, List.range.loop, TL.gDict0, TL.gDPut, TL.fGetO, TL.odE, TL.keyD, TL.gApp2, TL.ooE, TL.gFrzO, TL.frzOE, TL.fLcO, TL.gOwnO, TL.fStar, TL.fCallK, TL.fCallFK, TL.permL, TL.eLc, TL.gAll, TL.gAllE, TL.fSlO, TL.fFrzL, TL.eFrzL, TL.fT, TL.truD, TL.isNN, TL.gExt, TL.asL, TL.gOoL, TL.allF, TL.fFrzO, TL.bFrzO, TL.gForApp, TL.fStp, TL.gPop, TL.divmodD, TL.fLrg, TL.eSlTo, TL.flatD, TL.bFrz, TL.gFrz, TL.fFrzL, TL.gRevO, TL.gClear, TL.gPopAt, TL.gIns, TL.ePop, TL.gAug, TL.gForE, TL.jSeq, TL.jRg1, TL.jRg2, TL.jEn, TL.iRg3, TL.iRvR, TL.vS, TL.fIxOd, TL.fGetO, TL.fDin, TL.fDinN, TL.odE, TL.gFrzD, TL.frzDE, TL.fKeys, TL.fVals, TL.fPairs, TL.f3, e0, e1])).trans ?_
    refine (gSeq_nx (e' := [.ow q2, s1, s2, .sh (.int k), .sh (.int style), .ow pl, .sh (.int dp), .sh wl]) (by subst hwl; simp [TL.gSeq, TL.gIf, TL.gSet, TL.gOwn, TL.gRet, TL.gRetF, TL.gRetO, TL.gNx, TL.gNo, TL.gBk, TL.gCt, TL.gAsg, TL.fVar, TL.fC, TL.f2, TL.f1, TL.fCons, TL.fNil, TL.fTup, TL.fLst, TL.fCall, TL.fCallF, TL.fTold, TL.fIf, TL.fAnd, TL.fOr, TL.fNot, TL.fMapD, TL.fB, TL.bOr, TL.bAnd, TL.bNot, TL.bYes, TL.fCh, TL.iSeq, TL.iRg1, TL.iRg2, TL.iEn, TL.iZp, TL.aNm, TL.aTup, TL.aCons, TL.aNil, TL.fSl, TL.pSome, TL.pNo, TL.asI, TL.asN, TL.asB, TL.ent, TL.mV, TL.mF, TL.outV, TL.outF, TL.tyNe, TL.tyEq, TL.tyN, TL.lenD, TL.addD_int, TL.subD_int, TL.ltD_int, TL.leD_int, TL.gtD_int, TL.geD_int, TL.negD_int, TL.eqD_int, TL.neD_int, Function.comp_apply, TL.pur, TL.e2, TL.eTold, TL.eLst, TL.eCons, TL.eNil, TL.eTup, TL.eCall, TL.eCallF, TL.eB, TL.eNot, TL.eOr, TL.eAnd, TL.eIf, TL.eFrz, TL.fFrz, TL.frzE, TL.mgE, TL.gPar, TL.vT, TL.vF, TL.vNil, TL.stE, TL.gSetE, TL.gOwnE, TL.gIfE, TL.gRetE, TL.gRetFE, TL.gAppE, TL.gPutE, TL.gPut, TL.gApp, TL.gAsgE, TL.gDropE, TL.ownE, TL.fIxO, TL.eCallG, TL.eCallGF, TL.agSlot, TL.agVal, TL.agTmp, TL.agNil, TL.okAgs, TL.okSlots, TL.toSV, TL.backE, TL.isOw, TL.apart, TL.mE, TL.mEF, TL.outE, TL.outEF, TL.endE, TL.parE, TL.kpOk, List.range, List.range.loop, TL.gDict0, TL.gDPut, TL.fGetO, TL.odE, TL.keyD, TL.gApp2, TL.ooE, TL.gFrzO, TL.frzOE, TL.fLcO, TL.gOwnO, TL.fStar, TL.fCallK, TL.fCallFK, TL.permL, TL.eLc, TL.gAll, TL.gAllE, TL.fSlO, TL.fFrzL, TL.eFrzL, TL.fT, TL.truD, TL.isNN, TL.gExt, TL.asL, TL.gOoL, TL.allF, TL.fFrzO, TL.bFrzO, TL.gForApp, TL.fStp, TL.gPop, TL.divmodD, TL.fLrg, TL.eSlTo, TL.flatD, TL.bFrz, TL.gFrz, TL.fFrzL, TL.gRevO, TL.gClear, TL.gPopAt, TL.gIns, TL.ePop, TL.gAug, TL.gForE, TL.jSeq, TL.jRg1, TL.jRg2, TL.jEn, TL.iRg3, TL.iRvR, TL.vS, TL.fIxOd, TL.fGetO, TL.fDin, TL.fDinN, TL.odE, TL.gFrzD, TL.frzDE, TL.fKeys, TL.fVals, TL.fPairs, TL.f3, d1, d2, m2, o1, l5])).trans ?_
    simp [TL.gSeq, TL.gIf, TL.gSet, TL.gOwn, TL.gRet, TL.gRetF, TL.gRetO, TL.gNx, TL.gNo, TL.gBk, TL.gCt, TL.gAsg, TL.fVar, TL.fC, TL.f2, TL.f1, TL.fCons, TL.fNil, TL.fTup, TL.fLst, TL.fCall, TL.fCallF, TL.fTold, TL.fIf, TL.fAnd, TL.fOr, TL.fNot, TL.fMapD, TL.fB, TL.bOr, TL.bAnd, TL.bNot, TL.bYes, TL.fCh, TL.iSeq, TL.iRg1, TL.iRg2, TL.iEn, TL.iZp, TL.aNm, TL.aTup, TL.aCons, TL.aNil, TL.fSl, TL.pSome, TL.pNo, TL.asI, TL.asN, TL.asB, TL.ent, TL.mV, TL.mF, TL.outV, TL.outF, TL.tyNe, TL.tyEq, TL.tyN, TL.lenD, TL.addD_int, TL.subD_int, TL.ltD_int, TL.leD_int, TL.gtD_int, TL.geD_int, TL.negD_int, TL.eqD_int, TL.neD_int, Function.comp_apply, TL.pur, TL.e2, TL.eTold, TL.eLst, TL.eCons, TL.eNil, TL.eTup, TL.eCall, TL.eCallF, TL.eB, TL.eNot, TL.eOr, TL.eAnd, TL.eIf, TL.eFrz, TL.fFrz, TL.frzE, TL.mgE, TL.gPar, TL.vT, TL.vF, TL.vNil, TL.stE, TL.gSetE, TL.gOwnE, TL.gIfE, TL.gRetE, TL.gRetFE, TL.gAppE, TL.gPutE, TL.gPut, TL.gApp, TL.gAsgE, TL.gDropE, TL.ownE, TL.fIxO, TL.eCallG, TL.eCallGF, TL.agSlot, TL.agVal, TL.agTmp, TL.agNil, TL.okAgs, TL.okSlots, TL.toSV, TL.backE, TL.isOw, TL.apart, TL.mE, TL.mEF, TL.outE, TL.outEF, TL.endE, TL.parE, TL.kpOk, List.range, List.range.loop, TL.gDict0, TL.gDPut, TL.fGetO, TL.odE, TL.keyD, TL.gApp2, TL.ooE, TL.gFrzO, TL.frzOE, TL.fLcO, TL.gOwnO, TL.fStar, TL.fCallK, TL.fCallFK, TL.permL, TL.eLc, TL.gAll, TL.gAllE, TL.fSlO, TL.fFrzL, TL.eFrzL, TL.fT, TL.truD, TL.isNN, TL.gExt, TL.asL, TL.gOoL, TL.allF, TL.fFrzO, TL.bFrzO, TL.gForApp, TL.fStp, TL.gPop, TL.divmodD, TL.fLrg, TL.eSlTo, TL.flatD, TL.bFrz, TL.gFrz, TL.fFrzL, TL.gRevO, TL.gClear, TL.gPopAt, TL.gIns, TL.ePop, TL.gAug, TL.gForE, TL.jSeq, TL.jRg1, TL.jRg2, TL.jEn, TL.iRg3, TL.iRvR, TL.vS, TL.fIxOd, TL.fGetO, TL.fDin, TL.fDinN, TL.odE, TL.gFrzD, TL.frzDE, TL.fKeys, TL.fVals, TL.fPairs, TL.f3, ev, d3, ek, l2, l3, lf]
  · have el : dep (P ++ [(u, kd)]) ((P ++ [(u, kd)]).length - 1) = u := by
      have : (P ++ [(u, kd)]).length - 1 = P.length := by simp
      rw [this]; exact dep_end
    rw [el]
    have := hv4 z
    omega
theorem page_go {style : Int} (c0 : 0 ≤ style) (c1 : style < 5) {s1 s2 : SV} : ∀ (m : Nat) (P : Pl) (n : Nat) (ps : List D) (lo : Nat) (s3 s6 s7 : SV), WF P → P.length + m ≤ 40 → IsSrc n ps → n + 3 * m ≤ 900000 → (style = 4 → 1 + (lo : Int) % 2 ≤ (dep P (P.length - 1) : Int) + 1) →
    ∃ P' qs t3 t6 t7, forG (aNm 3) B_law_page_1 ((List.range m).map fun k => PyData.int ((lo : Int) + (k : Nat))) [.ow ps, s1, s2, s3, .sh (.int style), .ow (P.map encR), s6, s7] = some (.nx [.ow qs, s1, s2, t3, .sh (.int style), .ow (P'.map encR), t6, t7]) ∧ WF P' ∧ P'.length = P.length + m ∧ IsSrc (n + 3 * m) qs
  | 0, P, n, ps, lo, s3, s6, s7, w, hl, hp, hn, hi => ⟨P, ps, s3, s6, s7, rfl, w, rfl, hp⟩
  | m + 1, P, n, ps, lo, s3, s6, s7, w, hl, hp, hn, hi => by
    obtain ⟨P1, q1, t6, t7, e1, w1, l1, hp1, i1⟩ := page_step w (by omega) hp (by omega) c0 c1 (k := (lo : Int)) (by omega) hi (s1 := s1) (s2 := s2) (s6 := s6) (s7 := s7)
    obtain ⟨P2, q2, u3, u6, u7, e2, w2, l2, hp2⟩ := page_go c0 c1 (s1 := s1) (s2 := s2) m P1 (n + 3) q1 (lo + 1) (.sh (.int (lo : Int))) t6 t7 w1 (by omega) hp1 (by omega) i1
    refine ⟨P2, q2, u3, u6, u7, ?_, w2, by omega, hp2.mono (by omega)⟩
    rw [List.range_succ_eq_map, List.map_cons, List.map_map]
    have e : ((fun k : Nat => PyData.int ((lo : Int) + (k : Nat))) ∘ Nat.succ) = fun k : Nat => PyData.int (((lo + 1 : Nat) : Int) + (k : Nat)) := by
      funext k; show PyData.int _ = PyData.int _; congr 1; omega
    have e0 : (lo : Int) + ((0 : Nat) : Int) = (lo : Int) := by omega
    rw [e, e0]
    show ((B_law_page_1 [.ow ps, s1, s2, .sh (.int (lo : Int)), .sh (.int style), .ow (P.map encR), s6, s7]).bind _) = _
    rw [e1]
    exact e2
theorem law_page {n : Nat} {ps : List D} (hp : IsSrc n ps) (hn : n ≤ 700000) {most : Int} (m0 : 1 ≤ most) (m1 : most ≤ 40) :
    ∃ P qs, M_law_page [.ow ps, .sh (.int most)] = some (P.map encR, [.ow qs, .sh (.int most)]) ∧ WF P ∧ IsSrc (n + 200) qs := by
  obtain ⟨r1, q1, d1, r10, r11, h1⟩ := draw_s (m := most) hp (by omega) (by omega) (by omega)
  obtain ⟨mn, hmn, mn1, mn2⟩ : ∃ m : Int, minD [.int most, .int 9] = some (.int m) ∧ 1 ≤ m ∧ m ≤ most := by
    refine ⟨_, minD_int _ _, ?_, ?_⟩ <;> split <;> omega
  obtain ⟨r2, q2, d2, r20, r21, h2⟩ := draw_s (m := mn) h1 (by omega) (by omega) (by omega)
  obtain ⟨r3, q3, d3, r30, r31, h3⟩ := draw_s (m := 3) h2 (by omega) (by omega) (by omega)
  obtain ⟨many, em, ma, mb⟩ : ∃ v : Int, ixD (.list [.int (1 + r1), .int (1 + r2), .int most]) (.int r3) = some (.int v) ∧ 1 ≤ v ∧ v ≤ 40 := by
    obtain ⟨x, h, m⟩ := atI_lt (xs := [PyData.int (1 + r1), .int (1 + r2), .int most]) r30 r31
    have : ∃ v : Int, x = .int v ∧ 1 ≤ v ∧ v ≤ 40 := by
      simp only [List.mem_cons, List.not_mem_nil, or_false] at m
      rcases m with rfl | rfl | rfl
      · exact ⟨_, rfl, by omega, by omega⟩
      · exact ⟨_, rfl, by omega, by omega⟩
      · exact ⟨_, rfl, by omega, by omega⟩
    obtain ⟨v, rfl, a, b⟩ := this
    exact ⟨v, h, a, b⟩
  obtain ⟨style, q4, d4, s0, s1, h4⟩ := draw_s (m := 5) h3 (by omega) (by omega) (by omega)
  obtain ⟨r5, q5, d5, r50, r51, h5⟩ := draw_s (m := 3) h4 (by omega) (by omega) (by omega)
  obtain ⟨kd, ek⟩ := kind3 r50 r51
  have w0 : WF [(0, kd)] := ⟨by simp, by simp, rfl, fun i hi => by simp at hi⟩
  obtain ⟨P, q6, t3, t6, t7, e6, w, lP, h6⟩ := page_go s0 s1 (s1 := .sh (.int most)) (s2 := .sh (.int many)) (many - 1).toNat [(0, kd)] _ q5 0 .un .un .un w0 (by simp; omega) h5 (by omega) (fun _ => by show _ ≤ ((0 : Nat) : Int) + 1; omega)
  refine ⟨P, q6, ?_, w, h6.mono (by omega)⟩
  have er : ([(0, kd)] : Pl).map encR = [PyData.tuple [.int 0, .str kd.nm]] := rfl
  rw [er] at e6
  have l1 : (1 : Nat) ≤ LN := by decide
  have l2 : (2 : Nat) ≤ LN := by decide
  have l3 : (3 : Nat) ≤ LN := by decide
  have en : ((List.range (many - 1).toNat).map fun k => PyData.int (((0 : Nat) : Int) + (k : Nat))) = rngD 0 (many - 1).toNat := rfl
  rw [en] at e6
  have lm : (many - 1).natAbs < 4611686018427387904 := by omega
  generalize kd.nm = nm at *
  generalize P.map encR = pl at *
  generalize hmw : (many - 1).toNat = mw at *
  have hG : G_law_page [.ow ps, .sh (.int most), .un, .un, .un, .un, .un, .un] = some (.rf pl [.ow q6, .sh (.int most), .sh (.int many), t3, .sh (.int style), .ow pl, t6, t7]) := by
    unfold G_law_page
    refine (gSeq_nx (e' := [.ow q3, .sh (.int most), .sh (.int many), .un, .un, .un, .un, .un]) (by simp [TL.gSeq, TL.gIf, TL.gSet, TL.gOwn, TL.gRet, TL.gRetF, TL.gRetO, TL.gNx, TL.gNo, TL.gBk, TL.gCt, TL.gAsg, TL.fVar, TL.fC, TL.f2, TL.f1, TL.fCons, TL.fNil, TL.fTup, TL.fLst, TL.fCall, TL.fCallF, TL.fTold, TL.fIf, TL.fAnd, TL.fOr, TL.fNot, TL.fMapD, TL.fB, TL.bOr, TL.bAnd, TL.bNot, TL.bYes, TL.fCh, TL.iSeq, TL.iRg1, TL.iRg2, TL.iEn, TL.iZp, TL.aNm, TL.aTup, TL.aCons, TL.aNil, TL.fSl, TL.pSome, TL.pNo, TL.asI, TL.asN, TL.asB, TL.ent, TL.mV, TL.mF, TL.outV, TL.outF, TL.tyNe, TL.tyEq, TL.tyN, TL.lenD, TL.addD_int, TL.subD_int, TL.ltD_int, TL.leD_int, TL.gtD_int, TL.geD_int, TL.negD_int, TL.eqD_int, TL.neD_int, Function.comp_apply, TL.pur, TL.e2, TL.eTold, TL.eLst, TL.eCons, TL.eNil, TL.eTup, TL.eCall, TL.eCallF, TL.eB, TL.eNot, TL.eOr, TL.eAnd, TL.eIf, TL.eFrz, TL.fFrz, TL.frzE, TL.mgE, TL.gPar, TL.vT, TL.vF, TL.vNil, TL.stE, TL.gSetE, TL.gOwnE, TL.gIfE, TL.gRetE, TL.gRetFE, TL.gAppE, TL.gPutE, TL.gPut, TL.gApp, TL.gAsgE, TL.gDropE, TL.ownE, TL.fIxO, TL.eCallG, TL.eCallGF, TL.agSlot, TL.agVal, TL.agTmp, TL.agNil, TL.okAgs, TL.okSlots, TL.toSV, TL.backE, TL.isOw, TL.apart, TL.mE, TL.mEF, TL.outE, TL.outEF, TL.endE, TL.parE, TL.kpOk, List.range, List.range.loop, TL.gDict0, TL.gDPut, TL.fGetO, TL.odE, TL.keyD, TL.gApp2, TL.ooE, TL.gFrzO, TL.frzOE, TL.fLcO, TL.gOwnO, TL.fStar, TL.fCallK, TL.fCallFK, TL.permL, TL.eLc, TL.gAll, TL.gAllE, TL.fSlO, TL.fFrzL, TL.eFrzL, TL.fT, TL.truD, TL.isNN, TL.gExt, TL.asL, TL.gOoL, TL.allF, TL.fFrzO, TL.bFrzO, TL.gForApp, TL.fStp, TL.gPop, TL.divmodD, TL.fLrg, TL.eSlTo, TL.flatD, TL.bFrz, TL.gFrz, TL.fFrzL, TL.gRevO, TL.gClear, TL.gPopAt, TL.gIns, TL.ePop, TL.gAug, TL.gForE, TL.jSeq, TL.jRg1, TL.jRg2, TL.jEn, TL.iRg3, TL.iRvR, TL.vS, TL.fIxOd, TL.fGetO, TL.fDin, TL.fDinN, TL.odE, TL.gFrzD, TL.frzDE, TL.fKeys, TL.fVals, TL.fPairs, TL.f3, d1, hmn, d2, d3, em, l3])).trans ?_
    refine (gSeq_nx (e' := [.ow q5, .sh (.int most), .sh (.int many), .un, .sh (.int style), .ow [.tuple [.int 0, .str nm]], .un, .un]) (by simp [TL.gSeq, TL.gIf, TL.gSet, TL.gOwn, TL.gRet, TL.gRetF, TL.gRetO, TL.gNx, TL.gNo, TL.gBk, TL.gCt, TL.gAsg, TL.fVar, TL.fC, TL.f2, TL.f1, TL.fCons, TL.fNil, TL.fTup, TL.fLst, TL.fCall, TL.fCallF, TL.fTold, TL.fIf, TL.fAnd, TL.fOr, TL.fNot, TL.fMapD, TL.fB, TL.bOr, TL.bAnd, TL.bNot, TL.bYes, TL.fCh, TL.iSeq, TL.iRg1, TL.iRg2, TL.iEn, TL.iZp, TL.aNm, TL.aTup, TL.aCons, TL.aNil, TL.fSl, TL.pSome, TL.pNo, TL.asI, TL.asN, TL.asB, TL.ent, TL.mV, TL.mF, TL.outV, TL.outF, TL.tyNe, TL.tyEq, TL.tyN, TL.lenD, TL.addD_int, TL.subD_int, TL.ltD_int, TL.leD_int, TL.gtD_int, TL.geD_int, TL.negD_int, TL.eqD_int, TL.neD_int, Function.comp_apply, TL.pur, TL.e2, TL.eTold, TL.eLst, TL.eCons, TL.eNil, TL.eTup, TL.eCall, TL.eCallF, TL.eB, TL.eNot, TL.eOr, TL.eAnd, TL.eIf, TL.eFrz, TL.fFrz, TL.frzE, TL.mgE, TL.gPar, TL.vT, TL.vF, TL.vNil, TL.stE, TL.gSetE, TL.gOwnE, TL.gIfE, TL.gRetE, TL.gRetFE, TL.gAppE, TL.gPutE, TL.gPut, TL.gApp, TL.gAsgE, TL.gDropE, TL.ownE, TL.fIxO, TL.eCallG, TL.eCallGF, TL.agSlot, TL.agVal, TL.agTmp, TL.agNil, TL.okAgs, TL.okSlots, TL.toSV, TL.backE, TL.isOw, TL.apart, TL.mE, TL.mEF, TL.outE, TL.outEF, TL.endE, TL.parE, TL.kpOk, List.range, List.range.loop, TL.gDict0, TL.gDPut, TL.fGetO, TL.odE, TL.keyD, TL.gApp2, TL.ooE, TL.gFrzO, TL.frzOE, TL.fLcO, TL.gOwnO, TL.fStar, TL.fCallK, TL.fCallFK, TL.permL, TL.eLc, TL.gAll, TL.gAllE, TL.fSlO, TL.fFrzL, TL.eFrzL, TL.fT, TL.truD, TL.isNN, TL.gExt, TL.asL, TL.gOoL, TL.allF, TL.fFrzO, TL.bFrzO, TL.gForApp, TL.fStp, TL.gPop, TL.divmodD, TL.fLrg, TL.eSlTo, TL.flatD, TL.bFrz, TL.gFrz, TL.fFrzL, TL.gRevO, TL.gClear, TL.gPopAt, TL.gIns, TL.ePop, TL.gAug, TL.gForE, TL.jSeq, TL.jRg1, TL.jRg2, TL.jEn, TL.iRg3, TL.iRvR, TL.vS, TL.fIxOd, TL.fGetO, TL.fDin, TL.fDinN, TL.odE, TL.gFrzD, TL.frzDE, TL.fKeys, TL.fVals, TL.fPairs, TL.f3, d4, d5, ek, l1, l2, l3])).trans ?_
    refine (gSeq_nx (e' := [.ow q6, .sh (.int most), .sh (.int many), t3, .sh (.int style), .ow pl, t6, t7]) ?_).trans ?_
    · have : (iRg1 (fCons (f2 subD (fVar 2) (fC (.int 1))) fNil)) [.ow q5, .sh (.int most), .sh (.int many), .un, .sh (.int style), .ow [.tuple [.int 0, .str nm]], .un, .un] = some (rngD 0 mw) := by
        simp [TL.gSeq, TL.gIf, TL.gSet, TL.gOwn, TL.gRet, TL.gRetF, TL.gRetO, TL.gNx, TL.gNo, TL.gBk, TL.gCt, TL.gAsg, TL.fVar, TL.fC, TL.f2, TL.f1, TL.fCons, TL.fNil, TL.fTup, TL.fLst, TL.fCall, TL.fCallF, TL.fTold, TL.fIf, TL.fAnd, TL.fOr, TL.fNot, TL.fMapD, TL.fB, TL.bOr, TL.bAnd, TL.bNot, TL.bYes, TL.fCh, TL.iSeq, TL.iRg1, TL.iRg2, TL.iEn, TL.iZp, TL.aNm, TL.aTup, TL.aCons, TL.aNil, TL.fSl, TL.pSome, TL.pNo, TL.asI, TL.asN, TL.asB, TL.ent, TL.mV, TL.mF, TL.outV, TL.outF, TL.tyNe, TL.tyEq, TL.tyN, TL.lenD, TL.addD_int, TL.subD_int, TL.ltD_int, TL.leD_int, TL.gtD_int, TL.geD_int, TL.negD_int, TL.eqD_int, TL.neD_int, Function.comp_apply, TL.pur, TL.e2, TL.eTold, TL.eLst, TL.eCons, TL.eNil, TL.eTup, TL.eCall, TL.eCallF, TL.eB, TL.eNot, TL.eOr, TL.eAnd, TL.eIf, TL.eFrz, TL.fFrz, TL.frzE, TL.mgE, TL.gPar, TL.vT, TL.vF, TL.vNil, TL.stE, TL.gSetE, TL.gOwnE, TL.gIfE, TL.gRetE, TL.gRetFE, TL.gAppE, TL.gPutE, TL.gPut, TL.gApp, TL.gAsgE, TL.gDropE, TL.ownE, TL.fIxO, TL.eCallG, TL.eCallGF, TL.agSlot, TL.agVal, TL.agTmp, TL.agNil, TL.okAgs, TL.okSlots, TL.toSV, TL.backE, TL.isOw, TL.apart, TL.mE, TL.mEF, TL.outE, TL.outEF, TL.endE, TL.parE, TL.kpOk, List.range, List.range.loop, TL.gDict0, TL.gDPut, TL.fGetO, TL.odE, TL.keyD, TL.gApp2, TL.ooE, TL.gFrzO, TL.frzOE, TL.fLcO, TL.gOwnO, TL.fStar, TL.fCallK, TL.fCallFK, TL.permL, TL.eLc, TL.gAll, TL.gAllE, TL.fSlO, TL.fFrzL, TL.eFrzL, TL.fT, TL.truD, TL.isNN, TL.gExt, TL.asL, TL.gOoL, TL.allF, TL.fFrzO, TL.bFrzO, TL.gForApp, TL.fStp, TL.gPop, TL.divmodD, TL.fLrg, TL.eSlTo, TL.flatD, TL.bFrz, TL.gFrz, TL.fFrzL, TL.gRevO, TL.gClear, TL.gPopAt, TL.gIns, TL.ePop, TL.gAug, TL.gForE, TL.jSeq, TL.jRg1, TL.jRg2, TL.jEn, TL.iRg3, TL.iRvR, TL.vS, TL.fIxOd, TL.fGetO, TL.fDin, TL.fDinN, TL.odE, TL.gFrzD, TL.frzDE, TL.fKeys, TL.fVals, TL.fPairs, TL.f3, lm, hmw]
      unfold L_law_page_1 gFor
      rw [this]; exact e6
    · simp [TL.gSeq, TL.gIf, TL.gSet, TL.gOwn, TL.gRet, TL.gRetF, TL.gRetO, TL.gNx, TL.gNo, TL.gBk, TL.gCt, TL.gAsg, TL.fVar, TL.fC, TL.f2, TL.f1, TL.fCons, TL.fNil, TL.fTup, TL.fLst, TL.fCall, TL.fCallF, TL.fTold, TL.fIf, TL.fAnd, TL.fOr, TL.fNot, TL.fMapD, TL.fB, TL.bOr, TL.bAnd, TL.bNot, TL.bYes, TL.fCh, TL.iSeq, TL.iRg1, TL.iRg2, TL.iEn, TL.iZp, TL.aNm, TL.aTup, TL.aCons, TL.aNil, TL.fSl, TL.pSome, TL.pNo, TL.asI, TL.asN, TL.asB, TL.ent, TL.mV, TL.mF, TL.outV, TL.outF, TL.tyNe, TL.tyEq, TL.tyN, TL.lenD, TL.addD_int, TL.subD_int, TL.ltD_int, TL.leD_int, TL.gtD_int, TL.geD_int, TL.negD_int, TL.eqD_int, TL.neD_int, Function.comp_apply, TL.pur, TL.e2, TL.eTold, TL.eLst, TL.eCons, TL.eNil, TL.eTup, TL.eCall, TL.eCallF, TL.eB, TL.eNot, TL.eOr, TL.eAnd, TL.eIf, TL.eFrz, TL.fFrz, TL.frzE, TL.mgE, TL.gPar, TL.vT, TL.vF, TL.vNil, TL.stE, TL.gSetE, TL.gOwnE, TL.gIfE, TL.gRetE, TL.gRetFE, TL.gAppE, TL.gPutE, TL.gPut, TL.gApp, TL.gAsgE, TL.gDropE, TL.ownE, TL.fIxO, TL.eCallG, TL.eCallGF, TL.agSlot, TL.agVal, TL.agTmp, TL.agNil, TL.okAgs, TL.okSlots, TL.toSV, TL.backE, TL.isOw, TL.apart, TL.mE, TL.mEF, TL.outE, TL.outEF, TL.endE, TL.parE, TL.kpOk, List.range, List.range.loop, TL.gDict0, TL.gDPut, TL.fGetO, TL.odE, TL.keyD, TL.gApp2, TL.ooE, TL.gFrzO, TL.frzOE, TL.fLcO, TL.gOwnO, TL.fStar, TL.fCallK, TL.fCallFK, TL.permL, TL.eLc, TL.gAll, TL.gAllE, TL.fSlO, TL.fFrzL, TL.eFrzL, TL.fT, TL.truD, TL.isNN, TL.gExt, TL.asL, TL.gOoL, TL.allF, TL.fFrzO, TL.bFrzO, TL.gForApp, TL.fStp, TL.gPop, TL.divmodD, TL.fLrg, TL.eSlTo, TL.flatD, TL.bFrz, TL.gFrz, TL.fFrzL, TL.gRevO, TL.gClear, TL.gPopAt, TL.gIns, TL.ePop, TL.gAug, TL.gForE, TL.jSeq, TL.jRg1, TL.jRg2, TL.jEn, TL.iRg3, TL.iRvR, TL.vS, TL.fIxOd, TL.fGetO, TL.fDin, TL.fDinN, TL.odE, TL.gFrzD, TL.frzDE, TL.fKeys, TL.fVals, TL.fPairs, TL.f3, ]
  unfold M_law_page
  generalize G_law_page = GG at *
  simp [TL.gSeq, TL.gIf, TL.gSet, TL.gOwn, TL.gRet, TL.gRetF, TL.gRetO, TL.gNx, TL.gNo, TL.gBk, TL.gCt, TL.gAsg, TL.fVar, TL.fC, TL.f2, TL.f1, TL.fCons, TL.fNil, TL.fTup, TL.fLst, TL.fCall, TL.fCallF, TL.fTold, TL.fIf, TL.fAnd, TL.fOr, TL.fNot, TL.fMapD, TL.fB, TL.bOr, TL.bAnd, TL.bNot, TL.bYes, TL.fCh, TL.iSeq, TL.iRg1, TL.iRg2, TL.iEn, TL.iZp, TL.aNm, TL.aTup, TL.aCons, TL.aNil, TL.fSl, TL.pSome, TL.pNo, TL.asI, TL.asN, TL.asB, TL.ent, TL.mV, TL.mF, TL.outV, TL.outF, TL.tyNe, TL.tyEq, TL.tyN, TL.lenD, TL.addD_int, TL.subD_int, TL.ltD_int, TL.leD_int, TL.gtD_int, TL.geD_int, TL.negD_int, TL.eqD_int, TL.neD_int, Function.comp_apply, TL.pur, TL.e2, TL.eTold, TL.eLst, TL.eCons, TL.eNil, TL.eTup, TL.eCall, TL.eCallF, TL.eB, TL.eNot, TL.eOr, TL.eAnd, TL.eIf, TL.eFrz, TL.fFrz, TL.frzE, TL.mgE, TL.gPar, TL.vT, TL.vF, TL.vNil, TL.stE, TL.gSetE, TL.gOwnE, TL.gIfE, TL.gRetE, TL.gRetFE, TL.gAppE, TL.gPutE, TL.gPut, TL.gApp, TL.gAsgE, TL.gDropE, TL.ownE, TL.fIxO, TL.eCallG, TL.eCallGF, TL.agSlot, TL.agVal, TL.agTmp, TL.agNil, TL.okAgs, TL.okSlots, TL.toSV, TL.backE, TL.isOw, TL.apart, TL.mE, TL.mEF, TL.outE, TL.outEF, TL.endE, TL.parE, TL.kpOk, List.range, List.range.loop, hG]
theorem upper_body {P : Pl} (w : WF P) {i : Nat} (hi : i < P.length) {s4 s5 : SV} :
    ∃ t4, B_law_upper_1 [.sh (encP P), .ow (parsD P i), .sh (.int (i : Int)), .sh (.tuple [.int (dep P i : Nat), .str (P[i]).2.nm]), s4, s5] = some (.nx [.sh (encP P), .ow (parsD P (i + 1)), .sh (.int (i : Int)), .sh (.tuple [.int (dep P i : Nat), .str (P[i]).2.nm]), t4, s5]) := by
  have le := w.le
  have e1 : lcG (aNm 5) (fB (f2 eqD (f2 ixD (f2 ixD (fVar 0) (fVar 5)) (fC (.int 0))) (f2 subD (f2 ixD (fVar 3) (fC (.int 0))) (fC (.int 1))))) E_law_upper_1 (rngD 0 i) [.sh (encP P), .ow (parsD P i), .sh (.int (i : Int)), .sh (.tuple [.int (dep P i : Nat), .str (P[i]).2.nm]), s4, .un] = some (encN (upL P i)) := by
    refine lc_rngN _ fun k hk => ⟨[.sh (encP P), .ow (parsD P i), .sh (.int (i : Int)), .sh (.tuple [.int (dep P i : Nat), .str (P[i]).2.nm]), s4, .sh (.int (k : Int))], rfl, ?_, fun _ => rfl⟩
    have a1 := encP_ix (P := P) (i := k) (by omega)
    have a2 := row0 (.int (dep P k : Nat)) (.str (P[k]).2.nm)
    have a3 := row0 (.int (dep P i : Nat)) (.str (P[i]).2.nm)
    have ep : encP P = .list (P.map encR) := rfl
    have a4 := eqD_int (dep P k : Int) ((dep P i : Int) - 1)
    rw [ep]
    generalize decide ((dep P k : Int) = (dep P i : Int) - 1) = b at *
    generalize (dep P k : Int) = dk at *
    generalize (dep P i : Int) = di at *
    generalize (P[k]).2.nm = nk at *
    generalize (P[i]).2.nm = ni at *
    generalize P.map encR = pl at *
    generalize parsD P i = ps at *
    simp [TL.gSeq, TL.gIf, TL.gSet, TL.gOwn, TL.gRet, TL.gRetF, TL.gRetO, TL.gNx, TL.gNo, TL.gBk, TL.gCt, TL.gAsg, TL.fVar, TL.fC, TL.f2, TL.f1, TL.fCons, TL.fNil, TL.fTup, TL.fLst, TL.fCall, TL.fCallF, TL.fTold, TL.fIf, TL.fAnd, TL.fOr, TL.fNot, TL.fMapD, TL.fB, TL.bOr, TL.bAnd, TL.bNot, TL.bYes, TL.fCh, TL.iSeq, TL.iRg1, TL.iRg2, TL.iEn, TL.iZp, TL.aNm, TL.aTup, TL.aCons, TL.aNil, TL.fSl, TL.pSome, TL.pNo, TL.asI, TL.asN, TL.asB, TL.ent, TL.mV, TL.mF, TL.outV, TL.outF, TL.tyNe, TL.tyEq, TL.tyN, TL.lenD, TL.addD_int, TL.subD_int, TL.ltD_int, TL.leD_int, TL.gtD_int, TL.geD_int, TL.negD_int, TL.eqD_int, TL.neD_int, Function.comp_apply, TL.pur, TL.e2, TL.eTold, TL.eLst, TL.eCons, TL.eNil, TL.eTup, TL.eCall, TL.eCallF, TL.eB, TL.eNot, TL.eOr, TL.eAnd, TL.eIf, TL.eFrz, TL.fFrz, TL.frzE, TL.mgE, TL.gPar, TL.vT, TL.vF, TL.vNil, TL.stE, TL.gSetE, TL.gOwnE, TL.gIfE, TL.gRetE, TL.gRetFE, TL.gAppE, TL.gPutE, TL.gPut, TL.gApp, TL.gAsgE, TL.gDropE, TL.ownE, TL.fIxO, TL.eCallG, TL.eCallGF, TL.agSlot, TL.agVal, TL.agTmp, TL.agNil, TL.okAgs, TL.okSlots, TL.toSV, TL.backE, TL.isOw, TL.apart, TL.mE, TL.mEF, TL.outE, TL.outEF, TL.endE, TL.parE, TL.kpOk, List.range, List.range.loop, TL.gDict0, TL.gDPut, TL.fGetO, TL.odE, TL.keyD, TL.gApp2, TL.ooE, TL.gFrzO, TL.frzOE, TL.fLcO, TL.gOwnO, TL.fStar, TL.fCallK, TL.fCallFK, TL.permL, TL.eLc, TL.gAll, TL.gAllE, TL.fSlO, TL.fFrzL, TL.eFrzL, TL.fT, TL.truD, TL.isNN, TL.gExt, TL.asL, TL.gOoL, TL.allF, TL.fFrzO, TL.bFrzO, TL.gForApp, TL.fStp, TL.gPop, TL.divmodD, TL.fLrg, TL.eSlTo, TL.flatD, TL.bFrz, TL.gFrz, TL.fFrzL, TL.gRevO, TL.gClear, TL.gPopAt, TL.gIns, TL.ePop, TL.gAug, TL.gForE, TL.jSeq, TL.jRg1, TL.jRg2, TL.jEn, TL.iRg3, TL.iRvR, TL.vS, TL.fIxOd, TL.fGetO, TL.fDin, TL.fDinN, TL.odE, TL.gFrzD, TL.frzDE, TL.fKeys, TL.fVals, TL.fPairs, TL.f3, a1, a2, a3, a4]
  have e2 := ne_nil (upL P i)
  have e3 : (if (upL P i).isEmpty = true then some PyData.none else atI (encN (upL P i)) (-1)) = some (parD (par P i)) := by
    have h := up_last w hi
    cases hp : par P i with
    | none =>
      rw [hp, List.getLast?_eq_none_iff] at h
      rw [h]; rfl
    | some j =>
      rw [hp] at h
      have : (upL P i).isEmpty = false := by
        cases hu : upL P i with
        | nil => rw [hu] at h; cases h
        | cons _ _ => rfl
      rw [this]
      exact lastN_ix h
  have ul : (upL P i).length ≤ 40 := by
    unfold upL
    exact Nat.le_trans (List.length_filter_le _ _) (by rw [List.length_range]; omega)
  have lr : (rngD 0 i).length ≤ LN := by rw [rngD_len]; show _ ≤ 16777216; omega
  have lf : (parsD P i).length < LN := by rw [parsD_len]; show _ < 16777216; omega
  have li : (i : Int).natAbs < 4611686018427387904 := by omega
  have ti : (i : Int).toNat = i := by omega
  refine ⟨.ow (encN (upL P i)), ?_⟩
  rw [parsD_succ]
  have hr : ∀ e : Ev, e[2]? = some (.sh (.int (i : Int))) → (iRg1 (fCons (fVar 2) fNil)) e = some (rngD 0 i) := fun e he => by
    have ln : i < 4611686018427387904 := by omega
    simp [TL.gSeq, TL.gIf, TL.gSet, TL.gOwn, TL.gRet, TL.gRetF, TL.gRetO, TL.gNx, TL.gNo, TL.gBk, TL.gCt, TL.gAsg, TL.fVar, TL.fC, TL.f2, TL.f1, TL.fCons, TL.fNil, TL.fTup, TL.fLst, TL.fCall, TL.fCallF, TL.fTold, TL.fIf, TL.fAnd, TL.fOr, TL.fNot, TL.fMapD, TL.fB, TL.bOr, TL.bAnd, TL.bNot, TL.bYes, TL.fCh, TL.iSeq, TL.iRg1, TL.iRg2, TL.iEn, TL.iZp, TL.aNm, TL.aTup, TL.aCons, TL.aNil, TL.fSl, TL.pSome, TL.pNo, TL.asI, TL.asN, TL.asB, TL.ent, TL.mV, TL.mF, TL.outV, TL.outF, TL.tyNe, TL.tyEq, TL.tyN, TL.lenD, TL.addD_int, TL.subD_int, TL.ltD_int, TL.leD_int, TL.gtD_int, TL.geD_int, TL.negD_int, TL.eqD_int, TL.neD_int, Function.comp_apply, TL.pur, TL.e2, TL.eTold, TL.eLst, TL.eCons, TL.eNil, TL.eTup, TL.eCall, TL.eCallF, TL.eB, TL.eNot, TL.eOr, TL.eAnd, TL.eIf, TL.eFrz, TL.fFrz, TL.frzE, TL.mgE, TL.gPar, TL.vT, TL.vF, TL.vNil, TL.stE, TL.gSetE, TL.gOwnE, TL.gIfE, TL.gRetE, TL.gRetFE, TL.gAppE, TL.gPutE, TL.gPut, TL.gApp, TL.gAsgE, TL.gDropE, TL.ownE, TL.fIxO, TL.eCallG, TL.eCallGF, TL.agSlot, TL.agVal, TL.agTmp, TL.agNil, TL.okAgs, TL.okSlots, TL.toSV, TL.backE, TL.isOw, TL.apart, TL.mE, TL.mEF, TL.outE, TL.outEF, TL.endE, TL.parE, TL.kpOk, List.range, List.range.loop, TL.gDict0, TL.gDPut, TL.fGetO, TL.odE, TL.keyD, TL.gApp2, TL.ooE, TL.gFrzO, TL.frzOE, TL.fLcO, TL.gOwnO, TL.fStar, TL.fCallK, TL.fCallFK, TL.permL, TL.eLc, TL.gAll, TL.gAllE, TL.fSlO, TL.fFrzL, TL.eFrzL, TL.fT, TL.truD, TL.isNN, TL.gExt, TL.asL, TL.gOoL, TL.allF, TL.fFrzO, TL.bFrzO, TL.gForApp, TL.fStp, TL.gPop, TL.divmodD, TL.fLrg, TL.eSlTo, TL.flatD, TL.bFrz, TL.gFrz, TL.fFrzL, TL.gRevO, TL.gClear, TL.gPopAt, TL.gIns, TL.ePop, TL.gAug, TL.gForE, TL.jSeq, TL.jRg1, TL.jRg2, TL.jEn, TL.iRg3, TL.iRvR, TL.vS, TL.fIxOd, TL.fGetO, TL.fDin, TL.fDinN, TL.odE, TL.gFrzD, TL.frzDE, TL.fKeys, TL.fVals, TL.fPairs, TL.f3, he, li, ti, ln]
  generalize parD (par P i) = pd at *
  generalize parsD P i = ps at *
  generalize hb : (upL P i).isEmpty = b at *
  generalize encN (upL P i) = us at *
  generalize PyData.tuple [.int (dep P i : Nat), .str (P[i]).2.nm] = it at *
  generalize encP P = pl at *
  generalize hT : fB (f2 eqD (f2 ixD (f2 ixD (fVar 0) (fVar 5)) (fC (.int 0))) (f2 subD (f2 ixD (fVar 3) (fC (.int 0))) (fC (.int 1)))) = T at *
  unfold B_law_upper_1
  rw [hT]
  refine (gSeq_nx (e' := [.sh pl, .ow ps, .sh (.int (i : Int)), .sh it, .ow us, s5]) ?_).trans ?_
  · have h := hr [.sh pl, .ow ps, .sh (.int (i : Int)), .sh it, s4, s5] rfl
    generalize iRg1 (fCons (fVar 2) fNil) = ir at *
    generalize rngD 0 i = rr at *
    simp [TL.gSeq, TL.gIf, TL.gSet, TL.gOwn, TL.gRet, TL.gRetF, TL.gRetO, TL.gNx, TL.gNo, TL.gBk, TL.gCt, TL.gAsg, TL.fVar, TL.fC, TL.f2, TL.f1, TL.fCons, TL.fNil, TL.fTup, TL.fLst, TL.fCall, TL.fCallF, TL.fTold, TL.fIf, TL.fAnd, TL.fOr, TL.fNot, TL.fMapD, TL.fB, TL.bOr, TL.bAnd, TL.bNot, TL.bYes, TL.fCh, TL.iSeq, TL.iRg1, TL.iRg2, TL.iEn, TL.iZp, TL.aNm, TL.aTup, TL.aCons, TL.aNil, TL.fSl, TL.pSome, TL.pNo, TL.asI, TL.asN, TL.asB, TL.ent, TL.mV, TL.mF, TL.outV, TL.outF, TL.tyNe, TL.tyEq, TL.tyN, TL.lenD, TL.addD_int, TL.subD_int, TL.ltD_int, TL.leD_int, TL.gtD_int, TL.geD_int, TL.negD_int, TL.eqD_int, TL.neD_int, Function.comp_apply, TL.pur, TL.e2, TL.eTold, TL.eLst, TL.eCons, TL.eNil, TL.eTup, TL.eCall, TL.eCallF, TL.eB, TL.eNot, TL.eOr, TL.eAnd, TL.eIf, TL.eFrz, TL.fFrz, TL.frzE, TL.mgE, TL.gPar, TL.vT, TL.vF, TL.vNil, TL.stE, TL.gSetE, TL.gOwnE, TL.gIfE, TL.gRetE, TL.gRetFE, TL.gAppE, TL.gPutE, TL.gPut, TL.gApp, TL.gAsgE, TL.gDropE, TL.ownE, TL.fIxO, TL.eCallG, TL.eCallGF, TL.agSlot, TL.agVal, TL.agTmp, TL.agNil, TL.okAgs, TL.okSlots, TL.toSV, TL.backE, TL.isOw, TL.apart, TL.mE, TL.mEF, TL.outE, TL.outEF, TL.endE, TL.parE, TL.kpOk, List.range, List.range.loop, TL.gDict0, TL.gDPut, TL.fGetO, TL.odE, TL.keyD, TL.gApp2, TL.ooE, TL.gFrzO, TL.frzOE, TL.fLcO, TL.gOwnO, TL.fStar, TL.fCallK, TL.fCallFK, TL.permL, TL.eLc, TL.gAll, TL.gAllE, TL.fSlO, TL.fFrzL, TL.eFrzL, TL.fT, TL.truD, TL.isNN, TL.gExt, TL.asL, TL.gOoL, TL.allF, TL.fFrzO, TL.bFrzO, TL.gForApp, TL.fStp, TL.gPop, TL.divmodD, TL.fLrg, TL.eSlTo, TL.flatD, TL.bFrz, TL.gFrz, TL.fFrzL, TL.gRevO, TL.gClear, TL.gPopAt, TL.gIns, TL.ePop, TL.gAug, TL.gForE, TL.jSeq, TL.jRg1, TL.jRg2, TL.jEn, TL.iRg3, TL.iRvR, TL.vS, TL.fIxOd, TL.fGetO, TL.fDin, TL.fDinN, TL.odE, TL.gFrzD, TL.frzDE, TL.fKeys, TL.fVals, TL.fPairs, TL.f3, fLc, h, lr, wipeE, e1]
  · cases b
    · have e3 : atI us (-1) = some pd := e3
      simp [TL.gSeq, TL.gIf, TL.gSet, TL.gOwn, TL.gRet, TL.gRetF, TL.gRetO, TL.gNx, TL.gNo, TL.gBk, TL.gCt, TL.gAsg, TL.fVar, TL.fC, TL.f2, TL.f1, TL.fCons, TL.fNil, TL.fTup, TL.fLst, TL.fCall, TL.fCallF, TL.fTold, TL.fIf, TL.fAnd, TL.fOr, TL.fNot, TL.fMapD, TL.fB, TL.bOr, TL.bAnd, TL.bNot, TL.bYes, TL.fCh, TL.iSeq, TL.iRg1, TL.iRg2, TL.iEn, TL.iZp, TL.aNm, TL.aTup, TL.aCons, TL.aNil, TL.fSl, TL.pSome, TL.pNo, TL.asI, TL.asN, TL.asB, TL.ent, TL.mV, TL.mF, TL.outV, TL.outF, TL.tyNe, TL.tyEq, TL.tyN, TL.lenD, TL.addD_int, TL.subD_int, TL.ltD_int, TL.leD_int, TL.gtD_int, TL.geD_int, TL.negD_int, TL.eqD_int, TL.neD_int, Function.comp_apply, TL.pur, TL.e2, TL.eTold, TL.eLst, TL.eCons, TL.eNil, TL.eTup, TL.eCall, TL.eCallF, TL.eB, TL.eNot, TL.eOr, TL.eAnd, TL.eIf, TL.eFrz, TL.fFrz, TL.frzE, TL.mgE, TL.gPar, TL.vT, TL.vF, TL.vNil, TL.stE, TL.gSetE, TL.gOwnE, TL.gIfE, TL.gRetE, TL.gRetFE, TL.gAppE, TL.gPutE, TL.gPut, TL.gApp, TL.gAsgE, TL.gDropE, TL.ownE, TL.fIxO, TL.eCallG, TL.eCallGF, TL.agSlot, TL.agVal, TL.agTmp, TL.agNil, TL.okAgs, TL.okSlots, TL.toSV, TL.backE, TL.isOw, TL.apart, TL.mE, TL.mEF, TL.outE, TL.outEF, TL.endE, TL.parE, TL.kpOk, List.range, List.range.loop, TL.gDict0, TL.gDPut, TL.fGetO, TL.odE, TL.keyD, TL.gApp2, TL.ooE, TL.gFrzO, TL.frzOE, TL.fLcO, TL.gOwnO, TL.fStar, TL.fCallK, TL.fCallFK, TL.permL, TL.eLc, TL.gAll, TL.gAllE, TL.fSlO, TL.fFrzL, TL.eFrzL, TL.fT, TL.truD, TL.isNN, TL.gExt, TL.asL, TL.gOoL, TL.allF, TL.fFrzO, TL.bFrzO, TL.gForApp, TL.fStp, TL.gPop, TL.divmodD, TL.fLrg, TL.eSlTo, TL.flatD, TL.bFrz, TL.gFrz, TL.fFrzL, TL.gRevO, TL.gClear, TL.gPopAt, TL.gIns, TL.ePop, TL.gAug, TL.gForE, TL.jSeq, TL.jRg1, TL.jRg2, TL.jEn, TL.iRg3, TL.iRvR, TL.vS, TL.fIxOd, TL.fGetO, TL.fDin, TL.fDinN, TL.odE, TL.gFrzD, TL.frzDE, TL.fKeys, TL.fVals, TL.fPairs, TL.f3, e2, e3, lf]
    · have e3 : some PyData.none = some pd := e3
      injection e3 with e3; subst e3
      simp [TL.gSeq, TL.gIf, TL.gSet, TL.gOwn, TL.gRet, TL.gRetF, TL.gRetO, TL.gNx, TL.gNo, TL.gBk, TL.gCt, TL.gAsg, TL.fVar, TL.fC, TL.f2, TL.f1, TL.fCons, TL.fNil, TL.fTup, TL.fLst, TL.fCall, TL.fCallF, TL.fTold, TL.fIf, TL.fAnd, TL.fOr, TL.fNot, TL.fMapD, TL.fB, TL.bOr, TL.bAnd, TL.bNot, TL.bYes, TL.fCh, TL.iSeq, TL.iRg1, TL.iRg2, TL.iEn, TL.iZp, TL.aNm, TL.aTup, TL.aCons, TL.aNil, TL.fSl, TL.pSome, TL.pNo, TL.asI, TL.asN, TL.asB, TL.ent, TL.mV, TL.mF, TL.outV, TL.outF, TL.tyNe, TL.tyEq, TL.tyN, TL.lenD, TL.addD_int, TL.subD_int, TL.ltD_int, TL.leD_int, TL.gtD_int, TL.geD_int, TL.negD_int, TL.eqD_int, TL.neD_int, Function.comp_apply, TL.pur, TL.e2, TL.eTold, TL.eLst, TL.eCons, TL.eNil, TL.eTup, TL.eCall, TL.eCallF, TL.eB, TL.eNot, TL.eOr, TL.eAnd, TL.eIf, TL.eFrz, TL.fFrz, TL.frzE, TL.mgE, TL.gPar, TL.vT, TL.vF, TL.vNil, TL.stE, TL.gSetE, TL.gOwnE, TL.gIfE, TL.gRetE, TL.gRetFE, TL.gAppE, TL.gPutE, TL.gPut, TL.gApp, TL.gAsgE, TL.gDropE, TL.ownE, TL.fIxO, TL.eCallG, TL.eCallGF, TL.agSlot, TL.agVal, TL.agTmp, TL.agNil, TL.okAgs, TL.okSlots, TL.toSV, TL.backE, TL.isOw, TL.apart, TL.mE, TL.mEF, TL.outE, TL.outEF, TL.endE, TL.parE, TL.kpOk, List.range, List.range.loop, TL.gDict0, TL.gDPut, TL.fGetO, TL.odE, TL.keyD, TL.gApp2, TL.ooE, TL.gFrzO, TL.frzOE, TL.fLcO, TL.gOwnO, TL.fStar, TL.fCallK, TL.fCallFK, TL.permL, TL.eLc, TL.gAll, TL.gAllE, TL.fSlO, TL.fFrzL, TL.eFrzL, TL.fT, TL.truD, TL.isNN, TL.gExt, TL.asL, TL.gOoL, TL.allF, TL.fFrzO, TL.bFrzO, TL.gForApp, TL.fStp, TL.gPop, TL.divmodD, TL.fLrg, TL.eSlTo, TL.flatD, TL.bFrz, TL.gFrz, TL.fFrzL, TL.gRevO, TL.gClear, TL.gPopAt, TL.gIns, TL.ePop, TL.gAug, TL.gForE, TL.jSeq, TL.jRg1, TL.jRg2, TL.jEn, TL.iRg3, TL.iRvR, TL.vS, TL.fIxOd, TL.fGetO, TL.fDin, TL.fDinN, TL.odE, TL.gFrzD, TL.frzDE, TL.fKeys, TL.fVals, TL.fPairs, TL.f3, e2, lf]
theorem law_upper {P : Pl} (w : WF P) : M_law_upper [encP P] = some (parsD P P.length) := by
  have le := w.le
  have loop : Okk (forG (aTup 2 (aCons (aNm 2) (aCons (aNm 3) aNil))) B_law_upper_1 (enumD (P.map encR)) [.sh (encP P), .ow (parsD P 0), .un, .un, .un, .un])
      (fun r => ∃ s2 s3 s4 s5, r = .nx [.sh (encP P), .ow (parsD P P.length), s2, s3, s4, s5]) := by
    refine forG_ok (n := 0) (fun n e => ∃ s2 s3 s4 s5, e = [.sh (encP P), .ow (parsD P n), s2, s3, s4, s5]) ⟨.un, .un, .un, .un, rfl⟩ ?_ ?_
    · rintro i d e hd ⟨s2, s3, s4, s5, rfl⟩
      rw [Nat.zero_add]
      rw [enum_rows, List.getElem?_map] at hd
      obtain ⟨x, hx, rfl⟩ := Option.map_eq_some_iff.1 hd
      have hi : i < P.length := by
        have := (List.getElem?_eq_some_iff.1 hx).1
        rwa [List.length_range] at this
      rw [List.getElem?_range hi] at hx
      injection hx with hx; subst hx
      rw [row_get hi]
      obtain ⟨t4, hb⟩ := upper_body w hi (s4 := s4) (s5 := s5)
      exact ⟨_, rfl, _, hb, _, _, _, _, rfl⟩
    · rintro e ⟨s2, s3, s4, s5, rfl⟩
      rw [enumD_len, List.length_map, Nat.zero_add]
      exact ⟨_, _, _, _, rfl⟩
  obtain ⟨r, h1, s2, s3, s4, s5, rfl⟩ := loop
  have ep : encP P = .list (P.map encR) := rfl
  have e0 : parsD P 0 = [] := rfl
  have l0 : (0 : Nat) ≤ LN := Nat.zero_le _
  rw [e0] at h1
  rw [ep] at h1 ⊢
  generalize parsD P P.length = out at *
  generalize P.map encR = pl at *
  simp [TL.gSeq, TL.gIf, TL.gSet, TL.gOwn, TL.gRet, TL.gRetF, TL.gRetO, TL.gNx, TL.gNo, TL.gBk, TL.gCt, TL.gAsg, TL.fVar, TL.fC, TL.f2, TL.f1, TL.fCons, TL.fNil, TL.fTup, TL.fLst, TL.fCall, TL.fCallF, TL.fTold, TL.fIf, TL.fAnd, TL.fOr, TL.fNot, TL.fMapD, TL.fB, TL.bOr, TL.bAnd, TL.bNot, TL.bYes, TL.fCh, TL.iSeq, TL.iRg1, TL.iRg2, TL.iEn, TL.iZp, TL.aNm, TL.aTup, TL.aCons, TL.aNil, TL.fSl, TL.pSome, TL.pNo, TL.asI, TL.asN, TL.asB, TL.ent, TL.mV, TL.mF, TL.outV, TL.outF, TL.tyNe, TL.tyEq, TL.tyN, TL.lenD, TL.addD_int, TL.subD_int, TL.ltD_int, TL.leD_int, TL.gtD_int, TL.geD_int, TL.negD_int, TL.eqD_int, TL.neD_int, Function.comp_apply, TL.pur, TL.e2, TL.eTold, TL.eLst, TL.eCons, TL.eNil, TL.eTup, TL.eCall, TL.eCallF, TL.eB, TL.eNot, TL.eOr, TL.eAnd, TL.eIf, TL.eFrz, TL.fFrz, TL.frzE, TL.mgE, TL.gPar, TL.vT, TL.vF, TL.vNil, TL.stE, TL.gSetE, TL.gOwnE, TL.gIfE, TL.gRetE, TL.gRetFE, TL.gAppE, TL.gPutE, TL.gPut, TL.gApp, TL.gAsgE, TL.gDropE, TL.ownE, TL.fIxO, TL.eCallG, TL.eCallGF, TL.agSlot, TL.agVal, TL.agTmp, TL.agNil, TL.okAgs, TL.okSlots, TL.toSV, TL.backE, TL.isOw, TL.apart, TL.mE, TL.mEF, TL.outE, TL.outEF, TL.endE, TL.parE, TL.kpOk, List.range, List.range.loop, TL.gDict0, TL.gDPut, TL.fGetO, TL.odE, TL.keyD, TL.gApp2, TL.ooE, TL.gFrzO, TL.frzOE, TL.fLcO, TL.gOwnO, TL.fStar, TL.fCallK, TL.fCallFK, TL.permL, TL.eLc, TL.gAll, TL.gAllE, TL.fSlO, TL.fFrzL, TL.eFrzL, TL.fT, TL.truD, TL.isNN, TL.gExt, TL.asL, TL.gOoL, TL.allF, TL.fFrzO, TL.bFrzO, TL.gForApp, TL.fStp, TL.gPop, TL.divmodD, TL.fLrg, TL.eSlTo, TL.flatD, TL.bFrz, TL.gFrz, TL.fFrzL, TL.gRevO, TL.gClear, TL.gPopAt, TL.gIns, TL.ePop, TL.gAug, TL.gForE, TL.jSeq, TL.jRg1, TL.jRg2, TL.jEn, TL.iRg3, TL.iRvR, TL.vS, TL.fIxOd, TL.fGetO, TL.fDin, TL.fDinN, TL.odE, TL.gFrzD, TL.frzDE, TL.fKeys, TL.fVals, TL.fPairs, TL.f3, M_law_upper, G_law_upper, L_law_upper_1, gFor, l0, h1]
theorem low_lc {P : Pl} (hl : P.length ≤ 40) {i : Nat} {s0 s1x : D} (h0 : s0 = encP P) : (fLc [3] (iRg1 (fCons (fCall lenD (fCons (fVar 0) fNil)) fNil)) (aNm 3) (fB (f2 eqD (f2 ixD (fVar 1) (fVar 3)) (fVar 2))) E_law_lower_1) [.sh s0, .sh (.list (parsD P P.length)), .sh (.int (i : Int)), .un] = some (encN (grp P i)) := by
  subst h0
  have e1 : lcG (aNm 3) (fB (f2 eqD (f2 ixD (fVar 1) (fVar 3)) (fVar 2))) E_law_lower_1 (rngD 0 P.length) [.sh (encP P), .sh (.list (parsD P P.length)), .sh (.int (i : Int)), .un] = some (encN (grp P i)) := by
    unfold grp grpN
    refine lc_rngN _ fun k hk => ⟨[.sh (encP P), .sh (.list (parsD P P.length)), .sh (.int (i : Int)), .sh (.int (k : Int))], rfl, ?_, fun _ => rfl⟩
    have a1 := parsD_ix (P := P) (n := P.length) hk
    have a2 := @eqD_par (par P k) i
    generalize decide (par P k = some i) = b at *
    generalize parD (par P k) = pd at *
    generalize parsD P P.length = ps at *
    generalize encP P = pl at *
    simp [TL.gSeq, TL.gIf, TL.gSet, TL.gOwn, TL.gRet, TL.gRetF, TL.gRetO, TL.gNx, TL.gNo, TL.gBk, TL.gCt, TL.gAsg, TL.fVar, TL.fC, TL.f2, TL.f1, TL.fCons, TL.fNil, TL.fTup, TL.fLst, TL.fCall, TL.fCallF, TL.fTold, TL.fIf, TL.fAnd, TL.fOr, TL.fNot, TL.fMapD, TL.fB, TL.bOr, TL.bAnd, TL.bNot, TL.bYes, TL.fCh, TL.iSeq, TL.iRg1, TL.iRg2, TL.iEn, TL.iZp, TL.aNm, TL.aTup, TL.aCons, TL.aNil, TL.fSl, TL.pSome, TL.pNo, TL.asI, TL.asN, TL.asB, TL.ent, TL.mV, TL.mF, TL.outV, TL.outF, TL.tyNe, TL.tyEq, TL.tyN, TL.lenD, TL.addD_int, TL.subD_int, TL.ltD_int, TL.leD_int, TL.gtD_int, TL.geD_int, TL.negD_int, TL.eqD_int, TL.neD_int, Function.comp_apply, TL.pur, TL.e2, TL.eTold, TL.eLst, TL.eCons, TL.eNil, TL.eTup, TL.eCall, TL.eCallF, TL.eB, TL.eNot, TL.eOr, TL.eAnd, TL.eIf, TL.eFrz, TL.fFrz, TL.frzE, TL.mgE, TL.gPar, TL.vT, TL.vF, TL.vNil, TL.stE, TL.gSetE, TL.gOwnE, TL.gIfE, TL.gRetE, TL.gRetFE, TL.gAppE, TL.gPutE, TL.gPut, TL.gApp, TL.gAsgE, TL.gDropE, TL.ownE, TL.fIxO, TL.eCallG, TL.eCallGF, TL.agSlot, TL.agVal, TL.agTmp, TL.agNil, TL.okAgs, TL.okSlots, TL.toSV, TL.backE, TL.isOw, TL.apart, TL.mE, TL.mEF, TL.outE, TL.outEF, TL.endE, TL.parE, TL.kpOk, List.range, List.range.loop, TL.gDict0, TL.gDPut, TL.fGetO, TL.odE, TL.keyD, TL.gApp2, TL.ooE, TL.gFrzO, TL.frzOE, TL.fLcO, TL.gOwnO, TL.fStar, TL.fCallK, TL.fCallFK, TL.permL, TL.eLc, TL.gAll, TL.gAllE, TL.fSlO, TL.fFrzL, TL.eFrzL, TL.fT, TL.truD, TL.isNN, TL.gExt, TL.asL, TL.gOoL, TL.allF, TL.fFrzO, TL.bFrzO, TL.gForApp, TL.fStp, TL.gPop, TL.divmodD, TL.fLrg, TL.eSlTo, TL.flatD, TL.bFrz, TL.gFrz, TL.fFrzL, TL.gRevO, TL.gClear, TL.gPopAt, TL.gIns, TL.ePop, TL.gAug, TL.gForE, TL.jSeq, TL.jRg1, TL.jRg2, TL.jEn, TL.iRg3, TL.iRvR, TL.vS, TL.fIxOd, TL.fGetO, TL.fDin, TL.fDinN, TL.odE, TL.gFrzD, TL.frzDE, TL.fKeys, TL.fVals, TL.fPairs, TL.f3, a1, a2]
  have lr : (rngD 0 P.length).length ≤ LN := by rw [rngD_len]; show _ ≤ 16777216; omega
  have ep : encP P = .list (P.map encR) := rfl
  have l1 : (P.map encR).length = P.length := List.length_map _
  have lp : P.length < 4611686018427387904 := by omega
  rw [ep] at e1 ⊢
  have hr : (iRg1 (fCons (fCall lenD (fCons (fVar 0) fNil)) fNil)) [.sh (.list (P.map encR)), .sh (.list (parsD P P.length)), .sh (.int (i : Int)), .un] = some (rngD 0 P.length) := by
    generalize parsD P P.length = ps at *
    generalize P.map encR = pl at *
    simp [TL.gSeq, TL.gIf, TL.gSet, TL.gOwn, TL.gRet, TL.gRetF, TL.gRetO, TL.gNx, TL.gNo, TL.gBk, TL.gCt, TL.gAsg, TL.fVar, TL.fC, TL.f2, TL.f1, TL.fCons, TL.fNil, TL.fTup, TL.fLst, TL.fCall, TL.fCallF, TL.fTold, TL.fIf, TL.fAnd, TL.fOr, TL.fNot, TL.fMapD, TL.fB, TL.bOr, TL.bAnd, TL.bNot, TL.bYes, TL.fCh, TL.iSeq, TL.iRg1, TL.iRg2, TL.iEn, TL.iZp, TL.aNm, TL.aTup, TL.aCons, TL.aNil, TL.fSl, TL.pSome, TL.pNo, TL.asI, TL.asN, TL.asB, TL.ent, TL.mV, TL.mF, TL.outV, TL.outF, TL.tyNe, TL.tyEq, TL.tyN, TL.lenD, TL.addD_int, TL.subD_int, TL.ltD_int, TL.leD_int, TL.gtD_int, TL.geD_int, TL.negD_int, TL.eqD_int, TL.neD_int, Function.comp_apply, TL.pur, TL.e2, TL.eTold, TL.eLst, TL.eCons, TL.eNil, TL.eTup, TL.eCall, TL.eCallF, TL.eB, TL.eNot, TL.eOr, TL.eAnd, TL.eIf, TL.eFrz, TL.fFrz, TL.frzE, TL.mgE, TL.gPar, TL.vT, TL.vF, TL.vNil, TL.stE, TL.gSetE, TL.gOwnE, TL.gIfE, TL.gRetE, TL.gRetFE, TL.gAppE, TL.gPutE, TL.gPut, TL.gApp, TL.gAsgE, TL.gDropE, TL.ownE, TL.fIxO, TL.eCallG, TL.eCallGF, TL.agSlot, TL.agVal, TL.agTmp, TL.agNil, TL.okAgs, TL.okSlots, TL.toSV, TL.backE, TL.isOw, TL.apart, TL.mE, TL.mEF, TL.outE, TL.outEF, TL.endE, TL.parE, TL.kpOk, List.range, List.range.loop, TL.gDict0, TL.gDPut, TL.fGetO, TL.odE, TL.keyD, TL.gApp2, TL.ooE, TL.gFrzO, TL.frzOE, TL.fLcO, TL.gOwnO, TL.fStar, TL.fCallK, TL.fCallFK, TL.permL, TL.eLc, TL.gAll, TL.gAllE, TL.fSlO, TL.fFrzL, TL.eFrzL, TL.fT, TL.truD, TL.isNN, TL.gExt, TL.asL, TL.gOoL, TL.allF, TL.fFrzO, TL.bFrzO, TL.gForApp, TL.fStp, TL.gPop, TL.divmodD, TL.fLrg, TL.eSlTo, TL.flatD, TL.bFrz, TL.gFrz, TL.fFrzL, TL.gRevO, TL.gClear, TL.gPopAt, TL.gIns, TL.ePop, TL.gAug, TL.gForE, TL.jSeq, TL.jRg1, TL.jRg2, TL.jEn, TL.iRg3, TL.iRvR, TL.vS, TL.fIxOd, TL.fGetO, TL.fDin, TL.fDinN, TL.odE, TL.gFrzD, TL.frzDE, TL.fKeys, TL.fVals, TL.fPairs, TL.f3, l1, lp]
  unfold fLc
  rw [hr]
  simp only [Option.bind_some]
  rw [if_pos ⟨lr, rfl⟩]
  exact e1
theorem law_lower {P : Pl} (w : WF P) : M_law_lower [encP P] = some ((grps P).map fun g => .list (encN g)) := by
  have le := w.le
  have e1 := law_upper w
  have e2 : lcG (aNm 2) bYes E_law_lower_2 (rngD 0 P.length) [.sh (encP P), .sh (.list (parsD P P.length)), .un, .un] = some ((grps P).map fun g => .list (encN g)) := by
    have : (grps P).map (fun g => PyData.list (encN g)) = (List.range P.length).map fun i => PyData.list (encN (grp P i)) := by
      unfold grps; rw [List.map_map]; rfl
    rw [this]
    refine lc_mapN _ fun i hi => ⟨[.sh (encP P), .sh (.list (parsD P P.length)), .sh (.int (i : Int)), .un], rfl, rfl, ?_⟩
    have h := low_lc (P := P) le (i := i) (s1x := .none) rfl
    unfold E_law_lower_2 fTold
    rw [h]; rfl
  have lr : (rngD 0 P.length).length ≤ LN := by rw [rngD_len]; show _ ≤ 16777216; omega
  have ep : encP P = .list (P.map encR) := rfl
  have l1 : (P.map encR).length = P.length := List.length_map _
  have lp : P.length < 4611686018427387904 := by omega
  generalize (grps P).map (fun g => PyData.list (encN g)) = out at *
  generalize parsD P P.length = ps at *
  rw [ep] at e1 e2 ⊢
  generalize P.map encR = pl at *
  simp [TL.gSeq, TL.gIf, TL.gSet, TL.gOwn, TL.gRet, TL.gRetF, TL.gRetO, TL.gNx, TL.gNo, TL.gBk, TL.gCt, TL.gAsg, TL.fVar, TL.fC, TL.f2, TL.f1, TL.fCons, TL.fNil, TL.fTup, TL.fLst, TL.fCall, TL.fCallF, TL.fTold, TL.fIf, TL.fAnd, TL.fOr, TL.fNot, TL.fMapD, TL.fB, TL.bOr, TL.bAnd, TL.bNot, TL.bYes, TL.fCh, TL.iSeq, TL.iRg1, TL.iRg2, TL.iEn, TL.iZp, TL.aNm, TL.aTup, TL.aCons, TL.aNil, TL.fSl, TL.pSome, TL.pNo, TL.asI, TL.asN, TL.asB, TL.ent, TL.mV, TL.mF, TL.outV, TL.outF, TL.tyNe, TL.tyEq, TL.tyN, TL.lenD, TL.addD_int, TL.subD_int, TL.ltD_int, TL.leD_int, TL.gtD_int, TL.geD_int, TL.negD_int, TL.eqD_int, TL.neD_int, Function.comp_apply, TL.pur, TL.e2, TL.eTold, TL.eLst, TL.eCons, TL.eNil, TL.eTup, TL.eCall, TL.eCallF, TL.eB, TL.eNot, TL.eOr, TL.eAnd, TL.eIf, TL.eFrz, TL.fFrz, TL.frzE, TL.mgE, TL.gPar, TL.vT, TL.vF, TL.vNil, TL.stE, TL.gSetE, TL.gOwnE, TL.gIfE, TL.gRetE, TL.gRetFE, TL.gAppE, TL.gPutE, TL.gPut, TL.gApp, TL.gAsgE, TL.gDropE, TL.ownE, TL.fIxO, TL.eCallG, TL.eCallGF, TL.agSlot, TL.agVal, TL.agTmp, TL.agNil, TL.okAgs, TL.okSlots, TL.toSV, TL.backE, TL.isOw, TL.apart, TL.mE, TL.mEF, TL.outE, TL.outEF, TL.endE, TL.parE, TL.kpOk, List.range, List.range.loop, TL.gDict0, TL.gDPut, TL.fGetO, TL.odE, TL.keyD, TL.gApp2, TL.ooE, TL.gFrzO, TL.frzOE, TL.fLcO, TL.gOwnO, TL.fStar, TL.fCallK, TL.fCallFK, TL.permL, TL.eLc, TL.gAll, TL.gAllE, TL.fSlO, TL.fFrzL, TL.eFrzL, TL.fT, TL.truD, TL.isNN, TL.gExt, TL.asL, TL.gOoL, TL.allF, TL.fFrzO, TL.bFrzO, TL.gForApp, TL.fStp, TL.gPop, TL.divmodD, TL.fLrg, TL.eSlTo, TL.flatD, TL.bFrz, TL.gFrz, TL.fFrzL, TL.gRevO, TL.gClear, TL.gPopAt, TL.gIns, TL.ePop, TL.gAug, TL.gForE, TL.jSeq, TL.jRg1, TL.jRg2, TL.jEn, TL.iRg3, TL.iRvR, TL.vS, TL.fIxOd, TL.fGetO, TL.fDin, TL.fDinN, TL.odE, TL.gFrzD, TL.frzDE, TL.fKeys, TL.fVals, TL.fPairs, TL.f3, M_law_lower, G_law_lower, fLc, e1, l1, lp, lr, wipeE, e2]
theorem kept_body {n : Nat} {ps : List D} (hp : IsSrc n ps) (hn : n ≤ 900000) {r : Nat × Kd} {g : List Nat} (hg : g.length ≤ 1000) {acc : List Nat} (ha : acc.length ≤ 1000) {s1 s5 : SV} :
    ∃ x qs t5, B_law_kept_1 [.ow ps, s1, .ow (encN acc), .sh (encR r), .sh (.list (encN g)), s5] = some (.nx [.ow qs, s1, .ow (encN (acc ++ [x])), .sh (encR r), .sh (.list (encN g)), t5]) ∧ x ∈ chs r.2 g ∧ IsSrc (n + 1) qs := by
  have e1 := ne_nil g
  have e2 := row1 (.int (r.1 : Nat)) (.str r.2.nm)
  have e3 := nm_ne r.2
  have cl : (chs r.2 g).length ≤ 1001 := by
    by_cases c : r.2 = .one ∨ g = []
    · unfold chs; rw [if_pos c, List.length_cons]; omega
    · unfold chs; rw [if_neg c]; omega
  have cne : chs r.2 g ≠ [] := by
    unfold chs; split
    · simp
    · rename_i h; exact fun z => h (.inr z)
  have cp : 0 < (chs r.2 g).length := List.length_pos_iff.2 cne
  obtain ⟨q, qs, d1, q0, q1, h1⟩ := draw_s (m := ((chs r.2 g).length : Int)) hp (by omega) (by omega) (by omega)
  obtain ⟨x, hx, ex⟩ : ∃ x, x ∈ chs r.2 g ∧ ixD (.list (encN (chs r.2 g))) (.int q) = some (.int (x : Int)) := by
    obtain ⟨k, rfl⟩ : ∃ k : Nat, q = (k : Int) := ⟨q.toNat, by omega⟩
    have hr : k < (chs r.2 g).length := by omega
    exact ⟨(chs r.2 g)[k], List.getElem_mem hr, atI_nat (by unfold encN; rw [List.getElem?_map, List.getElem?_eq_getElem hr]; rfl)⟩
  have ea : encN acc ++ [PyData.int (x : Int)] = encN (acc ++ [x]) := by rw [encN_app]
  have la : (encN acc).length < LN := by rw [encN_len]; show _ < 16777216; omega
  have l1 : (1 : Nat) ≤ LN := by decide
  have lc : (encN (chs r.2 g)).length = (chs r.2 g).length := encN_len
  have add0 : addD (.list [.int 0]) (.list (encN g)) = some (.list (.int 0 :: encN g)) := by
    rw [addD_list _ _ (by rw [encN_len]; show _ ≤ 16777216; simp; omega)]; rfl
  refine ⟨x, qs, .sh (.list (encN (chs r.2 g))), ?_, hx, h1⟩
  have hs : (gSet 5 (fIf (bAnd (fB (f2 neD (fVar 4) (fTold (fLst fNil)))) (fB (f2 neD (f2 ixD (fVar 3) (fC (.int 1))) (fC (.str "one"))))) (fVar 4) (f2 addD (fTold (fLst (fCons (fC (.int 0)) fNil))) (fVar 4)))) [.ow ps, s1, .ow (encN acc), .sh (encR r), .sh (.list (encN g)), s5] = some (.nx [.ow ps, s1, .ow (encN acc), .sh (encR r), .sh (.list (encN g)), .sh (.list (encN (chs r.2 g)))]) := by
    have er : encR r = .tuple [.int (r.1 : Nat), .str r.2.nm] := rfl
    have l0 : (0 : Nat) ≤ LN := Nat.zero_le _
    rw [er, chs_enc]
    have hge : g.isEmpty = true ∨ g.isEmpty = false := by cases g.isEmpty <;> simp
    have hone : r.2.isOne = true ∨ r.2.isOne = false := by cases r.2.isOne <;> simp
    generalize r.2.nm = nm at *
    generalize encN acc = ac at *
    generalize (r.1 : Int) = dp at *
    rcases hge with c1 | c1
    · rw [c1] at e1
      have : (r.2.isOne || g.isEmpty) = true := by rw [c1, Bool.or_true]
      rw [if_pos this]
      generalize encN g = gs at *
      simp [TL.gSeq, TL.gIf, TL.gSet, TL.gOwn, TL.gRet, TL.gRetF, TL.gRetO, TL.gNx, TL.gNo, TL.gBk, TL.gCt, TL.gAsg, TL.fVar, TL.fC, TL.f2, TL.f1, TL.fCons, TL.fNil, TL.fTup, TL.fLst, TL.fCall, TL.fCallF, TL.fTold, TL.fIf, TL.fAnd, TL.fOr, TL.fNot, TL.fMapD, TL.fB, TL.bOr, TL.bAnd, TL.bNot, TL.bYes, TL.fCh, TL.iSeq, TL.iRg1, TL.iRg2, TL.iEn, TL.iZp, TL.aNm, TL.aTup, TL.aCons, TL.aNil, TL.fSl, TL.pSome, TL.pNo, TL.asI, TL.asN, TL.asB, TL.ent, TL.mV, TL.mF, TL.outV, TL.outF, TL.tyNe, TL.tyEq, TL.tyN, TL.lenD, TL.addD_int, TL.subD_int, TL.ltD_int, TL.leD_int, TL.gtD_int, TL.geD_int, TL.negD_int, TL.eqD_int, TL.neD_int, Function.comp_apply, TL.pur, TL.e2, TL.eTold, TL.eLst, TL.eCons, TL.eNil, TL.eTup, TL.eCall, TL.eCallF, TL.eB, TL.eNot, TL.eOr, TL.eAnd, TL.eIf, TL.eFrz, TL.fFrz, TL.frzE, TL.mgE, TL.gPar, TL.vT, TL.vF, TL.vNil, TL.stE, TL.gSetE, TL.gOwnE, TL.gIfE, TL.gRetE, TL.gRetFE, TL.gAppE, TL.gPutE, TL.gPut, TL.gApp, TL.gAsgE, TL.gDropE, TL.ownE, TL.fIxO, TL.eCallG, TL.eCallGF, TL.agSlot, TL.agVal, TL.agTmp, TL.agNil, TL.okAgs, TL.okSlots, TL.toSV, TL.backE, TL.isOw, TL.apart, TL.mE, TL.mEF, TL.outE, TL.outEF, TL.endE, TL.parE, TL.kpOk, List.range, List.range.loop, TL.gDict0, TL.gDPut, TL.fGetO, TL.odE, TL.keyD, TL.gApp2, TL.ooE, TL.gFrzO, TL.frzOE, TL.fLcO, TL.gOwnO, TL.fStar, TL.fCallK, TL.fCallFK, TL.permL, TL.eLc, TL.gAll, TL.gAllE, TL.fSlO, TL.fFrzL, TL.eFrzL, TL.fT, TL.truD, TL.isNN, TL.gExt, TL.asL, TL.gOoL, TL.allF, TL.fFrzO, TL.bFrzO, TL.gForApp, TL.fStp, TL.gPop, TL.divmodD, TL.fLrg, TL.eSlTo, TL.flatD, TL.bFrz, TL.gFrz, TL.fFrzL, TL.gRevO, TL.gClear, TL.gPopAt, TL.gIns, TL.ePop, TL.gAug, TL.gForE, TL.jSeq, TL.jRg1, TL.jRg2, TL.jEn, TL.iRg3, TL.iRvR, TL.vS, TL.fIxOd, TL.fGetO, TL.fDin, TL.fDinN, TL.odE, TL.gFrzD, TL.frzDE, TL.fKeys, TL.fVals, TL.fPairs, TL.f3, e1, add0, l0, l1]
    · rw [c1] at e1
      rcases hone with c2 | c2
      · rw [c2] at e3
        have : (r.2.isOne || g.isEmpty) = true := by rw [c2, Bool.true_or]
        rw [if_pos this]
        generalize encN g = gs at *
        simp [TL.gSeq, TL.gIf, TL.gSet, TL.gOwn, TL.gRet, TL.gRetF, TL.gRetO, TL.gNx, TL.gNo, TL.gBk, TL.gCt, TL.gAsg, TL.fVar, TL.fC, TL.f2, TL.f1, TL.fCons, TL.fNil, TL.fTup, TL.fLst, TL.fCall, TL.fCallF, TL.fTold, TL.fIf, TL.fAnd, TL.fOr, TL.fNot, TL.fMapD, TL.fB, TL.bOr, TL.bAnd, TL.bNot, TL.bYes, TL.fCh, TL.iSeq, TL.iRg1, TL.iRg2, TL.iEn, TL.iZp, TL.aNm, TL.aTup, TL.aCons, TL.aNil, TL.fSl, TL.pSome, TL.pNo, TL.asI, TL.asN, TL.asB, TL.ent, TL.mV, TL.mF, TL.outV, TL.outF, TL.tyNe, TL.tyEq, TL.tyN, TL.lenD, TL.addD_int, TL.subD_int, TL.ltD_int, TL.leD_int, TL.gtD_int, TL.geD_int, TL.negD_int, TL.eqD_int, TL.neD_int, Function.comp_apply, TL.pur, TL.e2, TL.eTold, TL.eLst, TL.eCons, TL.eNil, TL.eTup, TL.eCall, TL.eCallF, TL.eB, TL.eNot, TL.eOr, TL.eAnd, TL.eIf, TL.eFrz, TL.fFrz, TL.frzE, TL.mgE, TL.gPar, TL.vT, TL.vF, TL.vNil, TL.stE, TL.gSetE, TL.gOwnE, TL.gIfE, TL.gRetE, TL.gRetFE, TL.gAppE, TL.gPutE, TL.gPut, TL.gApp, TL.gAsgE, TL.gDropE, TL.ownE, TL.fIxO, TL.eCallG, TL.eCallGF, TL.agSlot, TL.agVal, TL.agTmp, TL.agNil, TL.okAgs, TL.okSlots, TL.toSV, TL.backE, TL.isOw, TL.apart, TL.mE, TL.mEF, TL.outE, TL.outEF, TL.endE, TL.parE, TL.kpOk, List.range, List.range.loop, TL.gDict0, TL.gDPut, TL.fGetO, TL.odE, TL.keyD, TL.gApp2, TL.ooE, TL.gFrzO, TL.frzOE, TL.fLcO, TL.gOwnO, TL.fStar, TL.fCallK, TL.fCallFK, TL.permL, TL.eLc, TL.gAll, TL.gAllE, TL.fSlO, TL.fFrzL, TL.eFrzL, TL.fT, TL.truD, TL.isNN, TL.gExt, TL.asL, TL.gOoL, TL.allF, TL.fFrzO, TL.bFrzO, TL.gForApp, TL.fStp, TL.gPop, TL.divmodD, TL.fLrg, TL.eSlTo, TL.flatD, TL.bFrz, TL.gFrz, TL.fFrzL, TL.gRevO, TL.gClear, TL.gPopAt, TL.gIns, TL.ePop, TL.gAug, TL.gForE, TL.jSeq, TL.jRg1, TL.jRg2, TL.jEn, TL.iRg3, TL.iRvR, TL.vS, TL.fIxOd, TL.fGetO, TL.fDin, TL.fDinN, TL.odE, TL.gFrzD, TL.frzDE, TL.fKeys, TL.fVals, TL.fPairs, TL.f3, e1, e2, e3, add0, l0, l1]
      · rw [c2] at e3
        have : ¬ (r.2.isOne || g.isEmpty) = true := by rw [c1, c2]; decide
        rw [if_neg this]
        generalize encN g = gs at *
        simp [TL.gSeq, TL.gIf, TL.gSet, TL.gOwn, TL.gRet, TL.gRetF, TL.gRetO, TL.gNx, TL.gNo, TL.gBk, TL.gCt, TL.gAsg, TL.fVar, TL.fC, TL.f2, TL.f1, TL.fCons, TL.fNil, TL.fTup, TL.fLst, TL.fCall, TL.fCallF, TL.fTold, TL.fIf, TL.fAnd, TL.fOr, TL.fNot, TL.fMapD, TL.fB, TL.bOr, TL.bAnd, TL.bNot, TL.bYes, TL.fCh, TL.iSeq, TL.iRg1, TL.iRg2, TL.iEn, TL.iZp, TL.aNm, TL.aTup, TL.aCons, TL.aNil, TL.fSl, TL.pSome, TL.pNo, TL.asI, TL.asN, TL.asB, TL.ent, TL.mV, TL.mF, TL.outV, TL.outF, TL.tyNe, TL.tyEq, TL.tyN, TL.lenD, TL.addD_int, TL.subD_int, TL.ltD_int, TL.leD_int, TL.gtD_int, TL.geD_int, TL.negD_int, TL.eqD_int, TL.neD_int, Function.comp_apply, TL.pur, TL.e2, TL.eTold, TL.eLst, TL.eCons, TL.eNil, TL.eTup, TL.eCall, TL.eCallF, TL.eB, TL.eNot, TL.eOr, TL.eAnd, TL.eIf, TL.eFrz, TL.fFrz, TL.frzE, TL.mgE, TL.gPar, TL.vT, TL.vF, TL.vNil, TL.stE, TL.gSetE, TL.gOwnE, TL.gIfE, TL.gRetE, TL.gRetFE, TL.gAppE, TL.gPutE, TL.gPut, TL.gApp, TL.gAsgE, TL.gDropE, TL.ownE, TL.fIxO, TL.eCallG, TL.eCallGF, TL.agSlot, TL.agVal, TL.agTmp, TL.agNil, TL.okAgs, TL.okSlots, TL.toSV, TL.backE, TL.isOw, TL.apart, TL.mE, TL.mEF, TL.outE, TL.outEF, TL.endE, TL.parE, TL.kpOk, List.range, List.range.loop, TL.gDict0, TL.gDPut, TL.fGetO, TL.odE, TL.keyD, TL.gApp2, TL.ooE, TL.gFrzO, TL.frzOE, TL.fLcO, TL.gOwnO, TL.fStar, TL.fCallK, TL.fCallFK, TL.permL, TL.eLc, TL.gAll, TL.gAllE, TL.fSlO, TL.fFrzL, TL.eFrzL, TL.fT, TL.truD, TL.isNN, TL.gExt, TL.asL, TL.gOoL, TL.allF, TL.fFrzO, TL.bFrzO, TL.gForApp, TL.fStp, TL.gPop, TL.divmodD, TL.fLrg, TL.eSlTo, TL.flatD, TL.bFrz, TL.gFrz, TL.fFrzL, TL.gRevO, TL.gClear, TL.gPopAt, TL.gIns, TL.ePop, TL.gAug, TL.gForE, TL.jSeq, TL.jRg1, TL.jRg2, TL.jEn, TL.iRg3, TL.iRvR, TL.vS, TL.fIxOd, TL.fGetO, TL.fDin, TL.fDinN, TL.odE, TL.gFrzD, TL.frzDE, TL.fKeys, TL.fVals, TL.fPairs, TL.f3, e1, e2, e3, l0]
  unfold B_law_kept_1
  refine (gSeq_nx hs).trans ?_
  generalize (chs r.2 g).length = ll at *
  generalize encN (chs r.2 g) = cc at *
  generalize encN (acc ++ [x]) = ac2 at *
  generalize encN acc = ac at *
  generalize encR r = rr at *
  generalize encN g = gs at *
  simp [TL.gSeq, TL.gIf, TL.gSet, TL.gOwn, TL.gRet, TL.gRetF, TL.gRetO, TL.gNx, TL.gNo, TL.gBk, TL.gCt, TL.gAsg, TL.fVar, TL.fC, TL.f2, TL.f1, TL.fCons, TL.fNil, TL.fTup, TL.fLst, TL.fCall, TL.fCallF, TL.fTold, TL.fIf, TL.fAnd, TL.fOr, TL.fNot, TL.fMapD, TL.fB, TL.bOr, TL.bAnd, TL.bNot, TL.bYes, TL.fCh, TL.iSeq, TL.iRg1, TL.iRg2, TL.iEn, TL.iZp, TL.aNm, TL.aTup, TL.aCons, TL.aNil, TL.fSl, TL.pSome, TL.pNo, TL.asI, TL.asN, TL.asB, TL.ent, TL.mV, TL.mF, TL.outV, TL.outF, TL.tyNe, TL.tyEq, TL.tyN, TL.lenD, TL.addD_int, TL.subD_int, TL.ltD_int, TL.leD_int, TL.gtD_int, TL.geD_int, TL.negD_int, TL.eqD_int, TL.neD_int, Function.comp_apply, TL.pur, TL.e2, TL.eTold, TL.eLst, TL.eCons, TL.eNil, TL.eTup, TL.eCall, TL.eCallF, TL.eB, TL.eNot, TL.eOr, TL.eAnd, TL.eIf, TL.eFrz, TL.fFrz, TL.frzE, TL.mgE, TL.gPar, TL.vT, TL.vF, TL.vNil, TL.stE, TL.gSetE, TL.gOwnE, TL.gIfE, TL.gRetE, TL.gRetFE, TL.gAppE, TL.gPutE, TL.gPut, TL.gApp, TL.gAsgE, TL.gDropE, TL.ownE, TL.fIxO, TL.eCallG, TL.eCallGF, TL.agSlot, TL.agVal, TL.agTmp, TL.agNil, TL.okAgs, TL.okSlots, TL.toSV, TL.backE, TL.isOw, TL.apart, TL.mE, TL.mEF, TL.outE, TL.outEF, TL.endE, TL.parE, TL.kpOk, List.range, List.range.loop, TL.gDict0, TL.gDPut, TL.fGetO, TL.odE, TL.keyD, TL.gApp2, TL.ooE, TL.gFrzO, TL.frzOE, TL.fLcO, TL.gOwnO, TL.fStar, TL.fCallK, TL.fCallFK, TL.permL, TL.eLc, TL.gAll, TL.gAllE, TL.fSlO, TL.fFrzL, TL.eFrzL, TL.fT, TL.truD, TL.isNN, TL.gExt, TL.asL, TL.gOoL, TL.allF, TL.fFrzO, TL.bFrzO, TL.gForApp, TL.fStp, TL.gPop, TL.divmodD, TL.fLrg, TL.eSlTo, TL.flatD, TL.bFrz, TL.gFrz, TL.fFrzL, TL.gRevO, TL.gClear, TL.gPopAt, TL.gIns, TL.ePop, TL.gAug, TL.gForE, TL.jSeq, TL.jRg1, TL.jRg2, TL.jEn, TL.iRg3, TL.iRvR, TL.vS, TL.fIxOd, TL.fGetO, TL.fDin, TL.fDinN, TL.odE, TL.gFrzD, TL.frzDE, TL.fKeys, TL.fVals, TL.fPairs, TL.f3, lc, d1, ex, la, ea]
theorem kept_loop {s1 : SV} : ∀ (zs : List ((Nat × Kd) × List Nat)) (n : Nat) (ps : List D) (acc : List Nat) (s3 s4 s5 : SV), IsSrc n ps → n + zs.length ≤ 900000 → acc.length + zs.length ≤ 1000 → (∀ z ∈ zs, z.2.length ≤ 1000) →
    ∃ xs qs t3 t4 t5, forG (aTup 2 (aCons (aNm 3) (aCons (aNm 4) aNil))) B_law_kept_1 (zs.map fun p => PyData.tuple [encR p.1, .list (encN p.2)]) [.ow ps, s1, .ow (encN acc), s3, s4, s5] = some (.nx [.ow qs, s1, .ow (encN (acc ++ xs)), t3, t4, t5]) ∧ Picks xs (zs.map fun p => chs p.1.2 p.2) ∧ IsSrc (n + zs.length) qs
  | [], n, ps, acc, s3, s4, s5, hp, _, _, _ => ⟨[], ps, s3, s4, s5, by rw [List.append_nil]; rfl, .nil, hp⟩
  | z :: zs, n, ps, acc, s3, s4, s5, hp, hn, hl, hz => by
    rw [List.length_cons] at hn hl
    obtain ⟨x, q1, t5, hb, hx, h1⟩ := kept_body hp (by omega) (r := z.1) (g := z.2) (hz z (List.mem_cons_self ..)) (acc := acc) (by omega) (s1 := s1) (s5 := s5)
    obtain ⟨xs, q2, u3, u4, u5, ih, hxs, h2⟩ := kept_loop (s1 := s1) zs (n + 1) q1 (acc ++ [x]) (.sh (encR z.1)) (.sh (.list (encN z.2))) t5 h1 (by omega) (by rw [List.length_append]; simp; omega) fun y m => hz y (List.mem_cons_of_mem _ m)
    refine ⟨x :: xs, q2, u3, u4, u5, ?_, .cons hx hxs, h2.mono (by rw [List.length_cons]; omega)⟩
    show ((B_law_kept_1 [.ow ps, s1, .ow (encN acc), .sh (encR z.1), .sh (.list (encN z.2)), s5]).bind _) = _
    rw [hb]
    rw [show acc ++ x :: xs = acc ++ [x] ++ xs by simp]
    exact ih
theorem law_kept {P : Pl} (w : WF P) {n : Nat} {ps : List D} (hp : IsSrc n ps) (hn : n ≤ 800000) :
    ∃ xs qs, M_law_kept [.ow ps, .sh (encP P)] = some (encN xs, [.ow qs, .sh (encP P)]) ∧ IsSt P xs ∧ IsSrc (n + 40) qs := by
  have le := w.le
  have e1 := law_lower w
  have zl : (P.zip (grps P)).length = P.length := by rw [List.length_zip, grps_len]; omega
  obtain ⟨xs, qs, t3, t4, t5, e2, hx, h1⟩ := kept_loop (s1 := .sh (encP P)) (P.zip (grps P)) n ps [] .un .un .un hp (by omega) (by simp; omega) fun z m => by
    have := (List.of_mem_zip m).2
    simp only [grps, List.mem_map] at this
    obtain ⟨i, _, e⟩ := this
    rw [← e]
    have := @grpN_len P P.length i
    show (grpN P P.length i).length ≤ 1000
    omega
  rw [List.nil_append] at e2
  refine ⟨xs, qs, ?_, hx, h1.mono (by omega)⟩
  have ez : zipD (P.map encR) ((grps P).map fun g => .list (encN g)) = (P.zip (grps P)).map fun p => PyData.tuple [encR p.1, .list (encN p.2)] := by
    unfold zipD
    rw [List.zip_map, List.map_map]; rfl
  have lz : ((P.zip (grps P)).map fun p => PyData.tuple [encR p.1, .list (encN p.2)]).length ≤ LN := by rw [List.length_map, zl]; show _ ≤ 16777216; omega
  have ep : encP P = .list (P.map encR) := rfl
  have l0 : (0 : Nat) ≤ LN := Nat.zero_le _
  have e0 : encN [] = [] := rfl
  rw [e0] at e2
  rw [ep] at e1 e2 ⊢
  generalize (P.zip (grps P)).map (fun p => PyData.tuple [encR p.1, .list (encN p.2)]) = zs at *
  generalize (grps P).map (fun g => PyData.list (encN g)) = gg at *
  generalize P.map encR = pl at *
  generalize encN xs = ex at *
  have hG : G_law_kept [.ow ps, .sh (.list pl), .un, .un, .un, .un] = some (.rf ex [.ow qs, .sh (.list pl), .ow ex, t3, t4, t5]) := by
    unfold G_law_kept
    refine (gSeq_nx (e' := [.ow ps, .sh (.list pl), .ow [], .un, .un, .un]) (by simp [TL.gSeq, TL.gIf, TL.gSet, TL.gOwn, TL.gRet, TL.gRetF, TL.gRetO, TL.gNx, TL.gNo, TL.gBk, TL.gCt, TL.gAsg, TL.fVar, TL.fC, TL.f2, TL.f1, TL.fCons, TL.fNil, TL.fTup, TL.fLst, TL.fCall, TL.fCallF, TL.fTold, TL.fIf, TL.fAnd, TL.fOr, TL.fNot, TL.fMapD, TL.fB, TL.bOr, TL.bAnd, TL.bNot, TL.bYes, TL.fCh, TL.iSeq, TL.iRg1, TL.iRg2, TL.iEn, TL.iZp, TL.aNm, TL.aTup, TL.aCons, TL.aNil, TL.fSl, TL.pSome, TL.pNo, TL.asI, TL.asN, TL.asB, TL.ent, TL.mV, TL.mF, TL.outV, TL.outF, TL.tyNe, TL.tyEq, TL.tyN, TL.lenD, TL.addD_int, TL.subD_int, TL.ltD_int, TL.leD_int, TL.gtD_int, TL.geD_int, TL.negD_int, TL.eqD_int, TL.neD_int, Function.comp_apply, TL.pur, TL.e2, TL.eTold, TL.eLst, TL.eCons, TL.eNil, TL.eTup, TL.eCall, TL.eCallF, TL.eB, TL.eNot, TL.eOr, TL.eAnd, TL.eIf, TL.eFrz, TL.fFrz, TL.frzE, TL.mgE, TL.gPar, TL.vT, TL.vF, TL.vNil, TL.stE, TL.gSetE, TL.gOwnE, TL.gIfE, TL.gRetE, TL.gRetFE, TL.gAppE, TL.gPutE, TL.gPut, TL.gApp, TL.gAsgE, TL.gDropE, TL.ownE, TL.fIxO, TL.eCallG, TL.eCallGF, TL.agSlot, TL.agVal, TL.agTmp, TL.agNil, TL.okAgs, TL.okSlots, TL.toSV, TL.backE, TL.isOw, TL.apart, TL.mE, TL.mEF, TL.outE, TL.outEF, TL.endE, TL.parE, TL.kpOk, List.range, List.range.loop, TL.gDict0, TL.gDPut, TL.fGetO, TL.odE, TL.keyD, TL.gApp2, TL.ooE, TL.gFrzO, TL.frzOE, TL.fLcO, TL.gOwnO, TL.fStar, TL.fCallK, TL.fCallFK, TL.permL, TL.eLc, TL.gAll, TL.gAllE, TL.fSlO, TL.fFrzL, TL.eFrzL, TL.fT, TL.truD, TL.isNN, TL.gExt, TL.asL, TL.gOoL, TL.allF, TL.fFrzO, TL.bFrzO, TL.gForApp, TL.fStp, TL.gPop, TL.divmodD, TL.fLrg, TL.eSlTo, TL.flatD, TL.bFrz, TL.gFrz, TL.fFrzL, TL.gRevO, TL.gClear, TL.gPopAt, TL.gIns, TL.ePop, TL.gAug, TL.gForE, TL.jSeq, TL.jRg1, TL.jRg2, TL.jEn, TL.iRg3, TL.iRvR, TL.vS, TL.fIxOd, TL.fGetO, TL.fDin, TL.fDinN, TL.odE, TL.gFrzD, TL.frzDE, TL.fKeys, TL.fVals, TL.fPairs, TL.f3, l0])).trans ?_
    refine (gSeq_nx (e' := [.ow qs, .sh (.list pl), .ow ex, t3, t4, t5]) ?_).trans ?_
    · have : (iZp (fCons (fVar 1) (fCons (fTold (fCallF (fun ds => if ds.length = 1 then M_law_lower ds else none) (fCons (fVar 1) fNil))) fNil))) [.ow ps, .sh (.list pl), .ow [], .un, .un, .un] = some zs := by simp [TL.gSeq, TL.gIf, TL.gSet, TL.gOwn, TL.gRet, TL.gRetF, TL.gRetO, TL.gNx, TL.gNo, TL.gBk, TL.gCt, TL.gAsg, TL.fVar, TL.fC, TL.f2, TL.f1, TL.fCons, TL.fNil, TL.fTup, TL.fLst, TL.fCall, TL.fCallF, TL.fTold, TL.fIf, TL.fAnd, TL.fOr, TL.fNot, TL.fMapD, TL.fB, TL.bOr, TL.bAnd, TL.bNot, TL.bYes, TL.fCh, TL.iSeq, TL.iRg1, TL.iRg2, TL.iEn, TL.iZp, TL.aNm, TL.aTup, TL.aCons, TL.aNil, TL.fSl, TL.pSome, TL.pNo, TL.asI, TL.asN, TL.asB, TL.ent, TL.mV, TL.mF, TL.outV, TL.outF, TL.tyNe, TL.tyEq, TL.tyN, TL.lenD, TL.addD_int, TL.subD_int, TL.ltD_int, TL.leD_int, TL.gtD_int, TL.geD_int, TL.negD_int, TL.eqD_int, TL.neD_int, Function.comp_apply, TL.pur, TL.e2, TL.eTold, TL.eLst, TL.eCons, TL.eNil, TL.eTup, TL.eCall, TL.eCallF, TL.eB, TL.eNot, TL.eOr, TL.eAnd, TL.eIf, TL.eFrz, TL.fFrz, TL.frzE, TL.mgE, TL.gPar, TL.vT, TL.vF, TL.vNil, TL.stE, TL.gSetE, TL.gOwnE, TL.gIfE, TL.gRetE, TL.gRetFE, TL.gAppE, TL.gPutE, TL.gPut, TL.gApp, TL.gAsgE, TL.gDropE, TL.ownE, TL.fIxO, TL.eCallG, TL.eCallGF, TL.agSlot, TL.agVal, TL.agTmp, TL.agNil, TL.okAgs, TL.okSlots, TL.toSV, TL.backE, TL.isOw, TL.apart, TL.mE, TL.mEF, TL.outE, TL.outEF, TL.endE, TL.parE, TL.kpOk, List.range, List.range.loop, TL.gDict0, TL.gDPut, TL.fGetO, TL.odE, TL.keyD, TL.gApp2, TL.ooE, TL.gFrzO, TL.frzOE, TL.fLcO, TL.gOwnO, TL.fStar, TL.fCallK, TL.fCallFK, TL.permL, TL.eLc, TL.gAll, TL.gAllE, TL.fSlO, TL.fFrzL, TL.eFrzL, TL.fT, TL.truD, TL.isNN, TL.gExt, TL.asL, TL.gOoL, TL.allF, TL.fFrzO, TL.bFrzO, TL.gForApp, TL.fStp, TL.gPop, TL.divmodD, TL.fLrg, TL.eSlTo, TL.flatD, TL.bFrz, TL.gFrz, TL.fFrzL, TL.gRevO, TL.gClear, TL.gPopAt, TL.gIns, TL.ePop, TL.gAug, TL.gForE, TL.jSeq, TL.jRg1, TL.jRg2, TL.jEn, TL.iRg3, TL.iRvR, TL.vS, TL.fIxOd, TL.fGetO, TL.fDin, TL.fDinN, TL.odE, TL.gFrzD, TL.frzDE, TL.fKeys, TL.fVals, TL.fPairs, TL.f3, e1, ez, itemsD]
      unfold L_law_kept_1 gFor
      rw [this]; exact e2
    · simp [TL.gSeq, TL.gIf, TL.gSet, TL.gOwn, TL.gRet, TL.gRetF, TL.gRetO, TL.gNx, TL.gNo, TL.gBk, TL.gCt, TL.gAsg, TL.fVar, TL.fC, TL.f2, TL.f1, TL.fCons, TL.fNil, TL.fTup, TL.fLst, TL.fCall, TL.fCallF, TL.fTold, TL.fIf, TL.fAnd, TL.fOr, TL.fNot, TL.fMapD, TL.fB, TL.bOr, TL.bAnd, TL.bNot, TL.bYes, TL.fCh, TL.iSeq, TL.iRg1, TL.iRg2, TL.iEn, TL.iZp, TL.aNm, TL.aTup, TL.aCons, TL.aNil, TL.fSl, TL.pSome, TL.pNo, TL.asI, TL.asN, TL.asB, TL.ent, TL.mV, TL.mF, TL.outV, TL.outF, TL.tyNe, TL.tyEq, TL.tyN, TL.lenD, TL.addD_int, TL.subD_int, TL.ltD_int, TL.leD_int, TL.gtD_int, TL.geD_int, TL.negD_int, TL.eqD_int, TL.neD_int, Function.comp_apply, TL.pur, TL.e2, TL.eTold, TL.eLst, TL.eCons, TL.eNil, TL.eTup, TL.eCall, TL.eCallF, TL.eB, TL.eNot, TL.eOr, TL.eAnd, TL.eIf, TL.eFrz, TL.fFrz, TL.frzE, TL.mgE, TL.gPar, TL.vT, TL.vF, TL.vNil, TL.stE, TL.gSetE, TL.gOwnE, TL.gIfE, TL.gRetE, TL.gRetFE, TL.gAppE, TL.gPutE, TL.gPut, TL.gApp, TL.gAsgE, TL.gDropE, TL.ownE, TL.fIxO, TL.eCallG, TL.eCallGF, TL.agSlot, TL.agVal, TL.agTmp, TL.agNil, TL.okAgs, TL.okSlots, TL.toSV, TL.backE, TL.isOw, TL.apart, TL.mE, TL.mEF, TL.outE, TL.outEF, TL.endE, TL.parE, TL.kpOk, List.range, List.range.loop, TL.gDict0, TL.gDPut, TL.fGetO, TL.odE, TL.keyD, TL.gApp2, TL.ooE, TL.gFrzO, TL.frzOE, TL.fLcO, TL.gOwnO, TL.fStar, TL.fCallK, TL.fCallFK, TL.permL, TL.eLc, TL.gAll, TL.gAllE, TL.fSlO, TL.fFrzL, TL.eFrzL, TL.fT, TL.truD, TL.isNN, TL.gExt, TL.asL, TL.gOoL, TL.allF, TL.fFrzO, TL.bFrzO, TL.gForApp, TL.fStp, TL.gPop, TL.divmodD, TL.fLrg, TL.eSlTo, TL.flatD, TL.bFrz, TL.gFrz, TL.fFrzL, TL.gRevO, TL.gClear, TL.gPopAt, TL.gIns, TL.ePop, TL.gAug, TL.gForE, TL.jSeq, TL.jRg1, TL.jRg2, TL.jEn, TL.iRg3, TL.iRvR, TL.vS, TL.fIxOd, TL.fGetO, TL.fDin, TL.fDinN, TL.odE, TL.gFrzD, TL.frzDE, TL.fKeys, TL.fVals, TL.fPairs, TL.f3, ]
  unfold M_law_kept
  generalize G_law_kept = GG at *
  simp [TL.gSeq, TL.gIf, TL.gSet, TL.gOwn, TL.gRet, TL.gRetF, TL.gRetO, TL.gNx, TL.gNo, TL.gBk, TL.gCt, TL.gAsg, TL.fVar, TL.fC, TL.f2, TL.f1, TL.fCons, TL.fNil, TL.fTup, TL.fLst, TL.fCall, TL.fCallF, TL.fTold, TL.fIf, TL.fAnd, TL.fOr, TL.fNot, TL.fMapD, TL.fB, TL.bOr, TL.bAnd, TL.bNot, TL.bYes, TL.fCh, TL.iSeq, TL.iRg1, TL.iRg2, TL.iEn, TL.iZp, TL.aNm, TL.aTup, TL.aCons, TL.aNil, TL.fSl, TL.pSome, TL.pNo, TL.asI, TL.asN, TL.asB, TL.ent, TL.mV, TL.mF, TL.outV, TL.outF, TL.tyNe, TL.tyEq, TL.tyN, TL.lenD, TL.addD_int, TL.subD_int, TL.ltD_int, TL.leD_int, TL.gtD_int, TL.geD_int, TL.negD_int, TL.eqD_int, TL.neD_int, Function.comp_apply, TL.pur, TL.e2, TL.eTold, TL.eLst, TL.eCons, TL.eNil, TL.eTup, TL.eCall, TL.eCallF, TL.eB, TL.eNot, TL.eOr, TL.eAnd, TL.eIf, TL.eFrz, TL.fFrz, TL.frzE, TL.mgE, TL.gPar, TL.vT, TL.vF, TL.vNil, TL.stE, TL.gSetE, TL.gOwnE, TL.gIfE, TL.gRetE, TL.gRetFE, TL.gAppE, TL.gPutE, TL.gPut, TL.gApp, TL.gAsgE, TL.gDropE, TL.ownE, TL.fIxO, TL.eCallG, TL.eCallGF, TL.agSlot, TL.agVal, TL.agTmp, TL.agNil, TL.okAgs, TL.okSlots, TL.toSV, TL.backE, TL.isOw, TL.apart, TL.mE, TL.mEF, TL.outE, TL.outEF, TL.endE, TL.parE, TL.kpOk, List.range, List.range.loop, hG]
theorem written_state {P : Pl} (w : WF P) {xs : List Nat} (hx : IsSt P xs) : M_written_state [encP P, .list (encN xs)] = some (.str (stT P xs)) := by
  have le := w.le
  have e1 := all_groups w
  have e2 := (join_ok w hx).1
  have e3 : lcG (aTup 2 (aCons (aNm 2) (aCons (aNm 3) aNil))) (fT (fVar 3)) E_written_state_1 (enumD ((grps P).map fun g => .list (encN g))) [.sh (encP P), .sh (.list (encN xs)), .un, .un] = some ((pcs P xs).map .str) := by
    rw [enum_gr]
    have : (pcs P xs).map PyData.str = (ns P).map fun j => PyData.str (pc j (xs.getD j 0)) := by unfold pcs; rw [List.map_map]; rfl
    rw [this]
    refine lc_list _ fun k hk => ?_
    rw [List.mem_range] at hk
    refine ⟨[.sh (encP P), .sh (.list (encN xs)), .sh (.int (k : Int)), .sh (.list (encN (grp P k)))], rfl, rfl, fun _ => ?_⟩
    obtain ⟨a1, a2, a3⟩ := st_small w hx hk
    refine joined_pc rfl ?_ (by omega) a1
    have : ixD (.list (encN xs)) (.int (k : Int)) = some (.int ((xs.getD k 0 : Nat) : Int)) := atI_nat (by unfold encN; rw [List.getElem?_map, a3]; rfl)
    generalize encP P = pl at *
    generalize encN xs = es at *
    generalize encN (grp P k) = gs at *
    simp [TL.gSeq, TL.gIf, TL.gSet, TL.gOwn, TL.gRet, TL.gRetF, TL.gRetO, TL.gNx, TL.gNo, TL.gBk, TL.gCt, TL.gAsg, TL.fVar, TL.fC, TL.f2, TL.f1, TL.fCons, TL.fNil, TL.fTup, TL.fLst, TL.fCall, TL.fCallF, TL.fTold, TL.fIf, TL.fAnd, TL.fOr, TL.fNot, TL.fMapD, TL.fB, TL.bOr, TL.bAnd, TL.bNot, TL.bYes, TL.fCh, TL.iSeq, TL.iRg1, TL.iRg2, TL.iEn, TL.iZp, TL.aNm, TL.aTup, TL.aCons, TL.aNil, TL.fSl, TL.pSome, TL.pNo, TL.asI, TL.asN, TL.asB, TL.ent, TL.mV, TL.mF, TL.outV, TL.outF, TL.tyNe, TL.tyEq, TL.tyN, TL.lenD, TL.addD_int, TL.subD_int, TL.ltD_int, TL.leD_int, TL.gtD_int, TL.geD_int, TL.negD_int, TL.eqD_int, TL.neD_int, Function.comp_apply, TL.pur, TL.e2, TL.eTold, TL.eLst, TL.eCons, TL.eNil, TL.eTup, TL.eCall, TL.eCallF, TL.eB, TL.eNot, TL.eOr, TL.eAnd, TL.eIf, TL.eFrz, TL.fFrz, TL.frzE, TL.mgE, TL.gPar, TL.vT, TL.vF, TL.vNil, TL.stE, TL.gSetE, TL.gOwnE, TL.gIfE, TL.gRetE, TL.gRetFE, TL.gAppE, TL.gPutE, TL.gPut, TL.gApp, TL.gAsgE, TL.gDropE, TL.ownE, TL.fIxO, TL.eCallG, TL.eCallGF, TL.agSlot, TL.agVal, TL.agTmp, TL.agNil, TL.okAgs, TL.okSlots, TL.toSV, TL.backE, TL.isOw, TL.apart, TL.mE, TL.mEF, TL.outE, TL.outEF, TL.endE, TL.parE, TL.kpOk, List.range, List.range.loop, TL.gDict0, TL.gDPut, TL.fGetO, TL.odE, TL.keyD, TL.gApp2, TL.ooE, TL.gFrzO, TL.frzOE, TL.fLcO, TL.gOwnO, TL.fStar, TL.fCallK, TL.fCallFK, TL.permL, TL.eLc, TL.gAll, TL.gAllE, TL.fSlO, TL.fFrzL, TL.eFrzL, TL.fT, TL.truD, TL.isNN, TL.gExt, TL.asL, TL.gOoL, TL.allF, TL.fFrzO, TL.bFrzO, TL.gForApp, TL.fStp, TL.gPop, TL.divmodD, TL.fLrg, TL.eSlTo, TL.flatD, TL.bFrz, TL.gFrz, TL.fFrzL, TL.gRevO, TL.gClear, TL.gPopAt, TL.gIns, TL.ePop, TL.gAug, TL.gForE, TL.jSeq, TL.jRg1, TL.jRg2, TL.jEn, TL.iRg3, TL.iRvR, TL.vS, TL.fIxOd, TL.fGetO, TL.fDin, TL.fDinN, TL.odE, TL.gFrzD, TL.frzDE, TL.fKeys, TL.fVals, TL.fPairs, TL.f3, this]
  have lz : (enumD ((grps P).map fun g => .list (encN g))).length ≤ LN := by
    rw [enumD_len, List.length_map, grps_len]; show _ ≤ 16777216; omega
  generalize hgg : (grps P).map (fun g => PyData.list (encN g)) = gg at *
  generalize hen : enumD gg = en at *
  generalize (pcs P xs).map PyData.str = ps at *
  generalize encP P = pl at *
  generalize encN xs = es at *
  simp [TL.gSeq, TL.gIf, TL.gSet, TL.gOwn, TL.gRet, TL.gRetF, TL.gRetO, TL.gNx, TL.gNo, TL.gBk, TL.gCt, TL.gAsg, TL.fVar, TL.fC, TL.f2, TL.f1, TL.fCons, TL.fNil, TL.fTup, TL.fLst, TL.fCall, TL.fCallF, TL.fTold, TL.fIf, TL.fAnd, TL.fOr, TL.fNot, TL.fMapD, TL.fB, TL.bOr, TL.bAnd, TL.bNot, TL.bYes, TL.fCh, TL.iSeq, TL.iRg1, TL.iRg2, TL.iEn, TL.iZp, TL.aNm, TL.aTup, TL.aCons, TL.aNil, TL.fSl, TL.pSome, TL.pNo, TL.asI, TL.asN, TL.asB, TL.ent, TL.mV, TL.mF, TL.outV, TL.outF, TL.tyNe, TL.tyEq, TL.tyN, TL.lenD, TL.addD_int, TL.subD_int, TL.ltD_int, TL.leD_int, TL.gtD_int, TL.geD_int, TL.negD_int, TL.eqD_int, TL.neD_int, Function.comp_apply, TL.pur, TL.e2, TL.eTold, TL.eLst, TL.eCons, TL.eNil, TL.eTup, TL.eCall, TL.eCallF, TL.eB, TL.eNot, TL.eOr, TL.eAnd, TL.eIf, TL.eFrz, TL.fFrz, TL.frzE, TL.mgE, TL.gPar, TL.vT, TL.vF, TL.vNil, TL.stE, TL.gSetE, TL.gOwnE, TL.gIfE, TL.gRetE, TL.gRetFE, TL.gAppE, TL.gPutE, TL.gPut, TL.gApp, TL.gAsgE, TL.gDropE, TL.ownE, TL.fIxO, TL.eCallG, TL.eCallGF, TL.agSlot, TL.agVal, TL.agTmp, TL.agNil, TL.okAgs, TL.okSlots, TL.toSV, TL.backE, TL.isOw, TL.apart, TL.mE, TL.mEF, TL.outE, TL.outEF, TL.endE, TL.parE, TL.kpOk, List.range, List.range.loop, TL.gDict0, TL.gDPut, TL.fGetO, TL.odE, TL.keyD, TL.gApp2, TL.ooE, TL.gFrzO, TL.frzOE, TL.fLcO, TL.gOwnO, TL.fStar, TL.fCallK, TL.fCallFK, TL.permL, TL.eLc, TL.gAll, TL.gAllE, TL.fSlO, TL.fFrzL, TL.eFrzL, TL.fT, TL.truD, TL.isNN, TL.gExt, TL.asL, TL.gOoL, TL.allF, TL.fFrzO, TL.bFrzO, TL.gForApp, TL.fStp, TL.gPop, TL.divmodD, TL.fLrg, TL.eSlTo, TL.flatD, TL.bFrz, TL.gFrz, TL.fFrzL, TL.gRevO, TL.gClear, TL.gPopAt, TL.gIns, TL.ePop, TL.gAug, TL.gForE, TL.jSeq, TL.jRg1, TL.jRg2, TL.jEn, TL.iRg3, TL.iRvR, TL.vS, TL.fIxOd, TL.fGetO, TL.fDin, TL.fDinN, TL.odE, TL.gFrzD, TL.frzDE, TL.fKeys, TL.fVals, TL.fPairs, TL.f3, M_written_state, G_written_state, fLc, e1, hen, lz, wipeE, e3, e2]
theorem format_state {P : Pl} (w : WF P) {xs : List Nat} (hx : IsSt P xs) : M_format_state [encP P, .list (encN xs)] = some (.str (stT P xs)) := by
  have e1 := check_plan w
  have e2 := check_state w hx
  have e3 := written_state w hx
  generalize encP P = pl at *
  generalize encN xs = es at *
  simp [TL.gSeq, TL.gIf, TL.gSet, TL.gOwn, TL.gRet, TL.gRetF, TL.gRetO, TL.gNx, TL.gNo, TL.gBk, TL.gCt, TL.gAsg, TL.fVar, TL.fC, TL.f2, TL.f1, TL.fCons, TL.fNil, TL.fTup, TL.fLst, TL.fCall, TL.fCallF, TL.fTold, TL.fIf, TL.fAnd, TL.fOr, TL.fNot, TL.fMapD, TL.fB, TL.bOr, TL.bAnd, TL.bNot, TL.bYes, TL.fCh, TL.iSeq, TL.iRg1, TL.iRg2, TL.iEn, TL.iZp, TL.aNm, TL.aTup, TL.aCons, TL.aNil, TL.fSl, TL.pSome, TL.pNo, TL.asI, TL.asN, TL.asB, TL.ent, TL.mV, TL.mF, TL.outV, TL.outF, TL.tyNe, TL.tyEq, TL.tyN, TL.lenD, TL.addD_int, TL.subD_int, TL.ltD_int, TL.leD_int, TL.gtD_int, TL.geD_int, TL.negD_int, TL.eqD_int, TL.neD_int, Function.comp_apply, TL.pur, TL.e2, TL.eTold, TL.eLst, TL.eCons, TL.eNil, TL.eTup, TL.eCall, TL.eCallF, TL.eB, TL.eNot, TL.eOr, TL.eAnd, TL.eIf, TL.eFrz, TL.fFrz, TL.frzE, TL.mgE, TL.gPar, TL.vT, TL.vF, TL.vNil, TL.stE, TL.gSetE, TL.gOwnE, TL.gIfE, TL.gRetE, TL.gRetFE, TL.gAppE, TL.gPutE, TL.gPut, TL.gApp, TL.gAsgE, TL.gDropE, TL.ownE, TL.fIxO, TL.eCallG, TL.eCallGF, TL.agSlot, TL.agVal, TL.agTmp, TL.agNil, TL.okAgs, TL.okSlots, TL.toSV, TL.backE, TL.isOw, TL.apart, TL.mE, TL.mEF, TL.outE, TL.outEF, TL.endE, TL.parE, TL.kpOk, List.range, List.range.loop, TL.gDict0, TL.gDPut, TL.fGetO, TL.odE, TL.keyD, TL.gApp2, TL.ooE, TL.gFrzO, TL.frzOE, TL.fLcO, TL.gOwnO, TL.fStar, TL.fCallK, TL.fCallFK, TL.permL, TL.eLc, TL.gAll, TL.gAllE, TL.fSlO, TL.fFrzL, TL.eFrzL, TL.fT, TL.truD, TL.isNN, TL.gExt, TL.asL, TL.gOoL, TL.allF, TL.fFrzO, TL.bFrzO, TL.gForApp, TL.fStp, TL.gPop, TL.divmodD, TL.fLrg, TL.eSlTo, TL.flatD, TL.bFrz, TL.gFrz, TL.fFrzL, TL.gRevO, TL.gClear, TL.gPopAt, TL.gIns, TL.ePop, TL.gAug, TL.gForE, TL.jSeq, TL.jRg1, TL.jRg2, TL.jEn, TL.iRg3, TL.iRvR, TL.vS, TL.fIxOd, TL.fGetO, TL.fDin, TL.fDinN, TL.odE, TL.gFrzD, TL.frzDE, TL.fKeys, TL.fVals, TL.fPairs, TL.f3, M_format_state, G_format_state, e1, e2, e3]
theorem setting_among {P : Pl} (w : WF P) {xs : List Nat} (hx : IsSt P xs) {j : Nat} (hj : j < P.length) : M_setting_among [.list ((pcs P xs).map .str), .int (j : Int), .list (encN (chs (P[j]).2 (grp P j)))] = some (.int ((xs.getD j 0 : Nat) : Int)) := by
  have le := w.le
  have hh := pick_head w hx hj
  have cl := @chs_len P j (P[j]).2
  have cm : ∀ s ∈ chs (P[j]).2 (grp P j), s < 100 := fun s m => by rcases chs_mem m with h | h <;> omega
  generalize chs (P[j]).2 (grp P j) = c at *
  have e1 : lcG (aNm 4) (fB (f2 inD (fJoined (jFmt (fVar 1) (jVal (fC (.str ":")) (jFmt (fVar 4) jNil)))) (fVar 0))) E_setting_among_1 (encN c) [.sh (.list ((pcs P xs).map .str)), .sh (.int (j : Int)), .sh (.list (encN c)), .un, .un] = some (encN (c.filter fun s => decide (pc j s ∈ pcs P xs))) := by
    refine lc_list (F := fun s => .int (s : Int)) c fun s hs => ?_
    refine ⟨[.sh (.list ((pcs P xs).map .str)), .sh (.int (j : Int)), .sh (.list (encN c)), .un, .sh (.int (s : Int))], rfl, ?_, fun _ => rfl⟩
    have h1 := joined_pc (e := [.sh (.list ((pcs P xs).map .str)), .sh (.int (j : Int)), .sh (.list (encN c)), .un, .sh (.int (s : Int))]) (f := fVar 1) (g := fVar 4) (j := j) (x := s) rfl rfl (by omega) (cm s hs)
    have h2 := inD_strs (pc j s) (pcs P xs)
    generalize fJoined (jFmt (fVar 1) (jVal (fC (.str ":")) (jFmt (fVar 4) jNil))) = J at *
    generalize (pcs P xs).map PyData.str = ps at *
    generalize encN c = ec at *
    simp [TL.gSeq, TL.gIf, TL.gSet, TL.gOwn, TL.gRet, TL.gRetF, TL.gRetO, TL.gNx, TL.gNo, TL.gBk, TL.gCt, TL.gAsg, TL.fVar, TL.fC, TL.f2, TL.f1, TL.fCons, TL.fNil, TL.fTup, TL.fLst, TL.fCall, TL.fCallF, TL.fTold, TL.fIf, TL.fAnd, TL.fOr, TL.fNot, TL.fMapD, TL.fB, TL.bOr, TL.bAnd, TL.bNot, TL.bYes, TL.fCh, TL.iSeq, TL.iRg1, TL.iRg2, TL.iEn, TL.iZp, TL.aNm, TL.aTup, TL.aCons, TL.aNil, TL.fSl, TL.pSome, TL.pNo, TL.asI, TL.asN, TL.asB, TL.ent, TL.mV, TL.mF, TL.outV, TL.outF, TL.tyNe, TL.tyEq, TL.tyN, TL.lenD, TL.addD_int, TL.subD_int, TL.ltD_int, TL.leD_int, TL.gtD_int, TL.geD_int, TL.negD_int, TL.eqD_int, TL.neD_int, Function.comp_apply, TL.pur, TL.e2, TL.eTold, TL.eLst, TL.eCons, TL.eNil, TL.eTup, TL.eCall, TL.eCallF, TL.eB, TL.eNot, TL.eOr, TL.eAnd, TL.eIf, TL.eFrz, TL.fFrz, TL.frzE, TL.mgE, TL.gPar, TL.vT, TL.vF, TL.vNil, TL.stE, TL.gSetE, TL.gOwnE, TL.gIfE, TL.gRetE, TL.gRetFE, TL.gAppE, TL.gPutE, TL.gPut, TL.gApp, TL.gAsgE, TL.gDropE, TL.ownE, TL.fIxO, TL.eCallG, TL.eCallGF, TL.agSlot, TL.agVal, TL.agTmp, TL.agNil, TL.okAgs, TL.okSlots, TL.toSV, TL.backE, TL.isOw, TL.apart, TL.mE, TL.mEF, TL.outE, TL.outEF, TL.endE, TL.parE, TL.kpOk, List.range, List.range.loop, TL.gDict0, TL.gDPut, TL.fGetO, TL.odE, TL.keyD, TL.gApp2, TL.ooE, TL.gFrzO, TL.frzOE, TL.fLcO, TL.gOwnO, TL.fStar, TL.fCallK, TL.fCallFK, TL.permL, TL.eLc, TL.gAll, TL.gAllE, TL.fSlO, TL.fFrzL, TL.eFrzL, TL.fT, TL.truD, TL.isNN, TL.gExt, TL.asL, TL.gOoL, TL.allF, TL.fFrzO, TL.bFrzO, TL.gForApp, TL.fStp, TL.gPop, TL.divmodD, TL.fLrg, TL.eSlTo, TL.flatD, TL.bFrz, TL.gFrz, TL.fFrzL, TL.gRevO, TL.gClear, TL.gPopAt, TL.gIns, TL.ePop, TL.gAug, TL.gForE, TL.jSeq, TL.jRg1, TL.jRg2, TL.jEn, TL.iRg3, TL.iRvR, TL.vS, TL.fIxOd, TL.fGetO, TL.fDin, TL.fDinN, TL.odE, TL.gFrzD, TL.frzDE, TL.fKeys, TL.fVals, TL.fPairs, TL.f3, h1, h2]
  have fl : ((c.filter fun s => decide (pc j s ∈ pcs P xs))).length ≤ 41 := Nat.le_trans (List.length_filter_le _ _) (by omega)
  have e2 : addD (.list (encN (c.filter fun s => decide (pc j s ∈ pcs P xs)))) (.list (encN c)) = some (.list (encN ((c.filter fun s => decide (pc j s ∈ pcs P xs)) ++ c))) := by
    rw [addD_list _ _ (by rw [encN_len, encN_len]; show _ ≤ 16777216; omega)]
    unfold encN; rw [List.map_append]
  have e3 : ixD (.list (encN ((c.filter fun s => decide (pc j s ∈ pcs P xs)) ++ c))) (.int 0) = some (.int ((xs.getD j 0 : Nat) : Int)) := atI_nat (j := 0) (by unfold encN; rw [List.getElem?_map, hh]; rfl)
  have lz : (encN c).length ≤ LN := by rw [encN_len]; show _ ≤ 16777216; omega
  generalize encN ((c.filter fun s => decide (pc j s ∈ pcs P xs)) ++ c) = e12 at *
  generalize encN (c.filter fun s => decide (pc j s ∈ pcs P xs)) = ef at *
  generalize (pcs P xs).map PyData.str = ps at *
  generalize encN c = ec at *
  generalize hT : fB (f2 inD (fJoined (jFmt (fVar 1) (jVal (fC (.str ":")) (jFmt (fVar 4) jNil)))) (fVar 0)) = T at *
  have hG : G_setting_among [.sh (.list ps), .sh (.int (j : Int)), .sh (.list ec), .un, .un] = some (.rt (.int ((xs.getD j 0 : Nat) : Int)) [.sh (.list ps), .sh (.int (j : Int)), .sh (.list ec), .ow ef, .un]) := by
    unfold G_setting_among
    rw [hT]
    refine (gSeq_nx (e' := [.sh (.list ps), .sh (.int (j : Int)), .sh (.list ec), .ow ef, .un]) ?_).trans ?_
    · simp [TL.gSeq, TL.gIf, TL.gSet, TL.gOwn, TL.gRet, TL.gRetF, TL.gRetO, TL.gNx, TL.gNo, TL.gBk, TL.gCt, TL.gAsg, TL.fVar, TL.fC, TL.f2, TL.f1, TL.fCons, TL.fNil, TL.fTup, TL.fLst, TL.fCall, TL.fCallF, TL.fTold, TL.fIf, TL.fAnd, TL.fOr, TL.fNot, TL.fMapD, TL.fB, TL.bOr, TL.bAnd, TL.bNot, TL.bYes, TL.fCh, TL.iSeq, TL.iRg1, TL.iRg2, TL.iEn, TL.iZp, TL.aNm, TL.aTup, TL.aCons, TL.aNil, TL.fSl, TL.pSome, TL.pNo, TL.asI, TL.asN, TL.asB, TL.ent, TL.mV, TL.mF, TL.outV, TL.outF, TL.tyNe, TL.tyEq, TL.tyN, TL.lenD, TL.addD_int, TL.subD_int, TL.ltD_int, TL.leD_int, TL.gtD_int, TL.geD_int, TL.negD_int, TL.eqD_int, TL.neD_int, Function.comp_apply, TL.pur, TL.e2, TL.eTold, TL.eLst, TL.eCons, TL.eNil, TL.eTup, TL.eCall, TL.eCallF, TL.eB, TL.eNot, TL.eOr, TL.eAnd, TL.eIf, TL.eFrz, TL.fFrz, TL.frzE, TL.mgE, TL.gPar, TL.vT, TL.vF, TL.vNil, TL.stE, TL.gSetE, TL.gOwnE, TL.gIfE, TL.gRetE, TL.gRetFE, TL.gAppE, TL.gPutE, TL.gPut, TL.gApp, TL.gAsgE, TL.gDropE, TL.ownE, TL.fIxO, TL.eCallG, TL.eCallGF, TL.agSlot, TL.agVal, TL.agTmp, TL.agNil, TL.okAgs, TL.okSlots, TL.toSV, TL.backE, TL.isOw, TL.apart, TL.mE, TL.mEF, TL.outE, TL.outEF, TL.endE, TL.parE, TL.kpOk, List.range, List.range.loop, TL.gDict0, TL.gDPut, TL.fGetO, TL.odE, TL.keyD, TL.gApp2, TL.ooE, TL.gFrzO, TL.frzOE, TL.fLcO, TL.gOwnO, TL.fStar, TL.fCallK, TL.fCallFK, TL.permL, TL.eLc, TL.gAll, TL.gAllE, TL.fSlO, TL.fFrzL, TL.eFrzL, TL.fT, TL.truD, TL.isNN, TL.gExt, TL.asL, TL.gOoL, TL.allF, TL.fFrzO, TL.bFrzO, TL.gForApp, TL.fStp, TL.gPop, TL.divmodD, TL.fLrg, TL.eSlTo, TL.flatD, TL.bFrz, TL.gFrz, TL.fFrzL, TL.gRevO, TL.gClear, TL.gPopAt, TL.gIns, TL.ePop, TL.gAug, TL.gForE, TL.jSeq, TL.jRg1, TL.jRg2, TL.jEn, TL.iRg3, TL.iRvR, TL.vS, TL.fIxOd, TL.fGetO, TL.fDin, TL.fDinN, TL.odE, TL.gFrzD, TL.frzDE, TL.fKeys, TL.fVals, TL.fPairs, TL.f3, fLc, lz, wipeE, e1]
    · simp [TL.gSeq, TL.gIf, TL.gSet, TL.gOwn, TL.gRet, TL.gRetF, TL.gRetO, TL.gNx, TL.gNo, TL.gBk, TL.gCt, TL.gAsg, TL.fVar, TL.fC, TL.f2, TL.f1, TL.fCons, TL.fNil, TL.fTup, TL.fLst, TL.fCall, TL.fCallF, TL.fTold, TL.fIf, TL.fAnd, TL.fOr, TL.fNot, TL.fMapD, TL.fB, TL.bOr, TL.bAnd, TL.bNot, TL.bYes, TL.fCh, TL.iSeq, TL.iRg1, TL.iRg2, TL.iEn, TL.iZp, TL.aNm, TL.aTup, TL.aCons, TL.aNil, TL.fSl, TL.pSome, TL.pNo, TL.asI, TL.asN, TL.asB, TL.ent, TL.mV, TL.mF, TL.outV, TL.outF, TL.tyNe, TL.tyEq, TL.tyN, TL.lenD, TL.addD_int, TL.subD_int, TL.ltD_int, TL.leD_int, TL.gtD_int, TL.geD_int, TL.negD_int, TL.eqD_int, TL.neD_int, Function.comp_apply, TL.pur, TL.e2, TL.eTold, TL.eLst, TL.eCons, TL.eNil, TL.eTup, TL.eCall, TL.eCallF, TL.eB, TL.eNot, TL.eOr, TL.eAnd, TL.eIf, TL.eFrz, TL.fFrz, TL.frzE, TL.mgE, TL.gPar, TL.vT, TL.vF, TL.vNil, TL.stE, TL.gSetE, TL.gOwnE, TL.gIfE, TL.gRetE, TL.gRetFE, TL.gAppE, TL.gPutE, TL.gPut, TL.gApp, TL.gAsgE, TL.gDropE, TL.ownE, TL.fIxO, TL.eCallG, TL.eCallGF, TL.agSlot, TL.agVal, TL.agTmp, TL.agNil, TL.okAgs, TL.okSlots, TL.toSV, TL.backE, TL.isOw, TL.apart, TL.mE, TL.mEF, TL.outE, TL.outEF, TL.endE, TL.parE, TL.kpOk, List.range, List.range.loop, TL.gDict0, TL.gDPut, TL.fGetO, TL.odE, TL.keyD, TL.gApp2, TL.ooE, TL.gFrzO, TL.frzOE, TL.fLcO, TL.gOwnO, TL.fStar, TL.fCallK, TL.fCallFK, TL.permL, TL.eLc, TL.gAll, TL.gAllE, TL.fSlO, TL.fFrzL, TL.eFrzL, TL.fT, TL.truD, TL.isNN, TL.gExt, TL.asL, TL.gOoL, TL.allF, TL.fFrzO, TL.bFrzO, TL.gForApp, TL.fStp, TL.gPop, TL.divmodD, TL.fLrg, TL.eSlTo, TL.flatD, TL.bFrz, TL.gFrz, TL.fFrzL, TL.gRevO, TL.gClear, TL.gPopAt, TL.gIns, TL.ePop, TL.gAug, TL.gForE, TL.jSeq, TL.jRg1, TL.jRg2, TL.jEn, TL.iRg3, TL.iRvR, TL.vS, TL.fIxOd, TL.fGetO, TL.fDin, TL.fDinN, TL.odE, TL.gFrzD, TL.frzDE, TL.fKeys, TL.fVals, TL.fPairs, TL.f3, e2, e3]
  unfold M_setting_among
  generalize G_setting_among = GG at *
  simp [TL.gSeq, TL.gIf, TL.gSet, TL.gOwn, TL.gRet, TL.gRetF, TL.gRetO, TL.gNx, TL.gNo, TL.gBk, TL.gCt, TL.gAsg, TL.fVar, TL.fC, TL.f2, TL.f1, TL.fCons, TL.fNil, TL.fTup, TL.fLst, TL.fCall, TL.fCallF, TL.fTold, TL.fIf, TL.fAnd, TL.fOr, TL.fNot, TL.fMapD, TL.fB, TL.bOr, TL.bAnd, TL.bNot, TL.bYes, TL.fCh, TL.iSeq, TL.iRg1, TL.iRg2, TL.iEn, TL.iZp, TL.aNm, TL.aTup, TL.aCons, TL.aNil, TL.fSl, TL.pSome, TL.pNo, TL.asI, TL.asN, TL.asB, TL.ent, TL.mV, TL.mF, TL.outV, TL.outF, TL.tyNe, TL.tyEq, TL.tyN, TL.lenD, TL.addD_int, TL.subD_int, TL.ltD_int, TL.leD_int, TL.gtD_int, TL.geD_int, TL.negD_int, TL.eqD_int, TL.neD_int, Function.comp_apply, TL.pur, TL.e2, TL.eTold, TL.eLst, TL.eCons, TL.eNil, TL.eTup, TL.eCall, TL.eCallF, TL.eB, TL.eNot, TL.eOr, TL.eAnd, TL.eIf, TL.eFrz, TL.fFrz, TL.frzE, TL.mgE, TL.gPar, TL.vT, TL.vF, TL.vNil, TL.stE, TL.gSetE, TL.gOwnE, TL.gIfE, TL.gRetE, TL.gRetFE, TL.gAppE, TL.gPutE, TL.gPut, TL.gApp, TL.gAsgE, TL.gDropE, TL.ownE, TL.fIxO, TL.eCallG, TL.eCallGF, TL.agSlot, TL.agVal, TL.agTmp, TL.agNil, TL.okAgs, TL.okSlots, TL.toSV, TL.backE, TL.isOw, TL.apart, TL.mE, TL.mEF, TL.outE, TL.outEF, TL.endE, TL.parE, TL.kpOk, List.range, List.range.loop, hG]
theorem cell_body {P : Pl} (w : WF P) {i : Nat} (hi : i < P.length) {s0 s1 s6 : SV} : B_written_plan_1 [s0, s1, .ow ((prts P i).map .str), .sh (.int ((dep P (i + 1) : Nat) : Int)), .sh (.int ((dep P i : Nat) : Int)), .sh (.str (knd P i).nm), s6] = some (.nx [s0, s1, .ow ((prts P (i + 1)).map .str), .sh (.int ((dep P (i + 1) : Nat) : Int)), .sh (.int ((dep P i : Nat) : Int)), .sh (.str (knd P i).nm), s6]) := by
  have le := w.le
  have dl := dep_le w i hi
  have pl := prts_len (P := P) i
  have l1 : ((prts P i).map PyData.str).length < LN := by rw [List.length_map, pl]; show _ < 16777216; omega
  have l2 : ((prts P i).map PyData.str).length + 1 < LN := by rw [List.length_map, pl]; show _ + 1 < 16777216; omega
  have g1 : gtD (.int ((dep P (i + 1) : Nat) : Int)) (.int ((dep P i : Nat) : Int)) = some (.bool (decide (dep P i < dep P (i + 1)))) := by
    rw [gtD_int]
    congr 2
    rw [decide_eq_decide]; omega
  have er : (prts P (i + 1)).map PyData.str = (prts P i).map PyData.str ++ [PyData.str (knd P i).nm] ++ [PyData.str (sepS P i)] := by
    rw [prts_succ, List.map_append, List.append_assoc]; rfl
  rw [er]
  by_cases c : dep P i < dep P (i + 1)
  · rw [decide_eq_true c] at g1
    have es : sepS P i = Str.ofString "(" := by unfold sepS; rw [if_pos c]
    rw [es]
    generalize ((dep P (i + 1) : Nat) : Int) = d1 at *
    generalize ((dep P i : Nat) : Int) = d0 at *
    generalize (knd P i).nm = nm at *
    generalize (prts P i).map PyData.str = ps at *
    simp [TL.gSeq, TL.gIf, TL.gSet, TL.gOwn, TL.gRet, TL.gRetF, TL.gRetO, TL.gNx, TL.gNo, TL.gBk, TL.gCt, TL.gAsg, TL.fVar, TL.fC, TL.f2, TL.f1, TL.fCons, TL.fNil, TL.fTup, TL.fLst, TL.fCall, TL.fCallF, TL.fTold, TL.fIf, TL.fAnd, TL.fOr, TL.fNot, TL.fMapD, TL.fB, TL.bOr, TL.bAnd, TL.bNot, TL.bYes, TL.fCh, TL.iSeq, TL.iRg1, TL.iRg2, TL.iEn, TL.iZp, TL.aNm, TL.aTup, TL.aCons, TL.aNil, TL.fSl, TL.pSome, TL.pNo, TL.asI, TL.asN, TL.asB, TL.ent, TL.mV, TL.mF, TL.outV, TL.outF, TL.tyNe, TL.tyEq, TL.tyN, TL.lenD, TL.addD_int, TL.subD_int, TL.ltD_int, TL.leD_int, TL.gtD_int, TL.geD_int, TL.negD_int, TL.eqD_int, TL.neD_int, Function.comp_apply, TL.pur, TL.e2, TL.eTold, TL.eLst, TL.eCons, TL.eNil, TL.eTup, TL.eCall, TL.eCallF, TL.eB, TL.eNot, TL.eOr, TL.eAnd, TL.eIf, TL.eFrz, TL.fFrz, TL.frzE, TL.mgE, TL.gPar, TL.vT, TL.vF, TL.vNil, TL.stE, TL.gSetE, TL.gOwnE, TL.gIfE, TL.gRetE, TL.gRetFE, TL.gAppE, TL.gPutE, TL.gPut, TL.gApp, TL.gAsgE, TL.gDropE, TL.ownE, TL.fIxO, TL.eCallG, TL.eCallGF, TL.agSlot, TL.agVal, TL.agTmp, TL.agNil, TL.okAgs, TL.okSlots, TL.toSV, TL.backE, TL.isOw, TL.apart, TL.mE, TL.mEF, TL.outE, TL.outEF, TL.endE, TL.parE, TL.kpOk, List.range, List.range.loop, TL.gDict0, TL.gDPut, TL.fGetO, TL.odE, TL.keyD, TL.gApp2, TL.ooE, TL.gFrzO, TL.frzOE, TL.fLcO, TL.gOwnO, TL.fStar, TL.fCallK, TL.fCallFK, TL.permL, TL.eLc, TL.gAll, TL.gAllE, TL.fSlO, TL.fFrzL, TL.eFrzL, TL.fT, TL.truD, TL.isNN, TL.gExt, TL.asL, TL.gOoL, TL.allF, TL.fFrzO, TL.bFrzO, TL.gForApp, TL.fStp, TL.gPop, TL.divmodD, TL.fLrg, TL.eSlTo, TL.flatD, TL.bFrz, TL.gFrz, TL.fFrzL, TL.gRevO, TL.gClear, TL.gPopAt, TL.gIns, TL.ePop, TL.gAug, TL.gForE, TL.jSeq, TL.jRg1, TL.jRg2, TL.jEn, TL.iRg3, TL.iRvR, TL.vS, TL.fIxOd, TL.fGetO, TL.fDin, TL.fDinN, TL.odE, TL.gFrzD, TL.frzDE, TL.fKeys, TL.fVals, TL.fPairs, TL.f3, B_written_plan_1, g1, l1, l2]
  · rw [decide_eq_false c] at g1
    have es : sepS P i = Txt.mul (Str.ofString ")") ((dep P i : Int) - (dep P (i + 1) : Int)) ++ Str.ofString " " := by unfold sepS; rw [if_neg c]
    have m1 : mulSD (.str (Str.ofString ")")) (.int ((dep P i : Int) - (dep P (i + 1) : Int))) = some (.str (Txt.mul (Str.ofString ")") ((dep P i : Int) - (dep P (i + 1) : Int)))) := by
      refine if_pos ⟨by omega, by omega, ?_⟩
      rw [len_tl, tl_cl]; decide
    have m2 : addD (.str (Txt.mul (Str.ofString ")") ((dep P i : Int) - (dep P (i + 1) : Int)))) (.str (Str.ofString " ")) = some (.str (sepS P i)) := by
      rw [es]
      refine add_str ?_
      rw [← es, len_tl, sep_tl]
      have := cell_len w hi
      unfold cellL at this
      rw [List.length_append] at this
      show _ ≤ 16777216; omega
    generalize sepS P i = ss at *
    generalize Txt.mul (Str.ofString ")") ((dep P i : Int) - (dep P (i + 1) : Int)) = mm at *
    generalize ((dep P (i + 1) : Nat) : Int) = d1 at *
    generalize ((dep P i : Nat) : Int) = d0 at *
    generalize (knd P i).nm = nm at *
    generalize (prts P i).map PyData.str = ps at *
    simp [TL.gSeq, TL.gIf, TL.gSet, TL.gOwn, TL.gRet, TL.gRetF, TL.gRetO, TL.gNx, TL.gNo, TL.gBk, TL.gCt, TL.gAsg, TL.fVar, TL.fC, TL.f2, TL.f1, TL.fCons, TL.fNil, TL.fTup, TL.fLst, TL.fCall, TL.fCallF, TL.fTold, TL.fIf, TL.fAnd, TL.fOr, TL.fNot, TL.fMapD, TL.fB, TL.bOr, TL.bAnd, TL.bNot, TL.bYes, TL.fCh, TL.iSeq, TL.iRg1, TL.iRg2, TL.iEn, TL.iZp, TL.aNm, TL.aTup, TL.aCons, TL.aNil, TL.fSl, TL.pSome, TL.pNo, TL.asI, TL.asN, TL.asB, TL.ent, TL.mV, TL.mF, TL.outV, TL.outF, TL.tyNe, TL.tyEq, TL.tyN, TL.lenD, TL.addD_int, TL.subD_int, TL.ltD_int, TL.leD_int, TL.gtD_int, TL.geD_int, TL.negD_int, TL.eqD_int, TL.neD_int, Function.comp_apply, TL.pur, TL.e2, TL.eTold, TL.eLst, TL.eCons, TL.eNil, TL.eTup, TL.eCall, TL.eCallF, TL.eB, TL.eNot, TL.eOr, TL.eAnd, TL.eIf, TL.eFrz, TL.fFrz, TL.frzE, TL.mgE, TL.gPar, TL.vT, TL.vF, TL.vNil, TL.stE, TL.gSetE, TL.gOwnE, TL.gIfE, TL.gRetE, TL.gRetFE, TL.gAppE, TL.gPutE, TL.gPut, TL.gApp, TL.gAsgE, TL.gDropE, TL.ownE, TL.fIxO, TL.eCallG, TL.eCallGF, TL.agSlot, TL.agVal, TL.agTmp, TL.agNil, TL.okAgs, TL.okSlots, TL.toSV, TL.backE, TL.isOw, TL.apart, TL.mE, TL.mEF, TL.outE, TL.outEF, TL.endE, TL.parE, TL.kpOk, List.range, List.range.loop, TL.gDict0, TL.gDPut, TL.fGetO, TL.odE, TL.keyD, TL.gApp2, TL.ooE, TL.gFrzO, TL.frzOE, TL.fLcO, TL.gOwnO, TL.fStar, TL.fCallK, TL.fCallFK, TL.permL, TL.eLc, TL.gAll, TL.gAllE, TL.fSlO, TL.fFrzL, TL.eFrzL, TL.fT, TL.truD, TL.isNN, TL.gExt, TL.asL, TL.gOoL, TL.allF, TL.fFrzO, TL.bFrzO, TL.gForApp, TL.fStp, TL.gPop, TL.divmodD, TL.fLrg, TL.eSlTo, TL.flatD, TL.bFrz, TL.gFrz, TL.fFrzL, TL.gRevO, TL.gClear, TL.gPopAt, TL.gIns, TL.ePop, TL.gAug, TL.gForE, TL.jSeq, TL.jRg1, TL.jRg2, TL.jEn, TL.iRg3, TL.iRvR, TL.vS, TL.fIxOd, TL.fGetO, TL.fDin, TL.fDinN, TL.odE, TL.gFrzD, TL.frzDE, TL.fKeys, TL.fVals, TL.fPairs, TL.f3, B_written_plan_1, g1, l1, l2, m1, m2]
theorem written_plan {P : Pl} (w : WF P) : M_written_plan [encP P] = some (.str (plT P)) := by
  have le := w.le
  have c1 : lcG (aTup 2 (aCons (aNm 4) (aCons (aNm 6) aNil))) bYes E_written_plan_1 (P.map encR) [.sh (encP P), .un, .un, .un, .un, .un, .un] = some (encN (P.map (·.1))) := by
    have e : encN (P.map (·.1)) = (P.map encR).map fun d => match d with | .tuple [x, _] => x | _ => .none := by
      unfold encN
      rw [List.map_map, List.map_map]; rfl
    rw [e]
    refine lcG_map _ fun d hd => ?_
    obtain ⟨r, _, rfl⟩ := List.mem_map.1 hd
    exact ⟨[.sh (encP P), .un, .un, .un, .sh (.int (r.1 : Nat)), .un, .sh (.str r.2.nm)], rfl, rfl, rfl⟩
  have loop : Okk (forG (aTup 2 (aCons (aTup 2 (aCons (aNm 4) (aCons (aNm 5) aNil))) (aCons (aNm 3) aNil))) B_written_plan_1 ((List.range P.length).map fun i => PyData.tuple [.tuple [.int (dep P i : Nat), .str (knd P i).nm], .int ((dep P (i + 1) : Nat) : Int)]) [.sh (encP P), .ow (encN (P.map (·.1))), .ow [], .un, .un, .un, .un]) (fun r => ∃ s3 s4 s5, r = .nx [.sh (encP P), .ow (encN (P.map (·.1))), .ow ((prts P P.length).map .str), s3, s4, s5, .un]) := by
    refine forG_ok (n := 0) (fun n e => ∃ s3 s4 s5, e = [.sh (encP P), .ow (encN (P.map (·.1))), .ow ((prts P n).map .str), s3, s4, s5, .un]) ⟨_, _, _, rfl⟩ ?_ ?_
    · rintro i d e hd ⟨s3, s4, s5, rfl⟩
      rw [Nat.zero_add]
      rw [List.getElem?_map] at hd
      obtain ⟨x, hx, rfl⟩ := Option.map_eq_some_iff.1 hd
      have hi : i < P.length := by
        have := (List.getElem?_eq_some_iff.1 hx).1
        rwa [List.length_range] at this
      rw [List.getElem?_range hi] at hx
      injection hx with hx; subst hx
      exact ⟨_, rfl, _, cell_body w hi, _, _, _, rfl⟩
    · rintro e ⟨s3, s4, s5, rfl⟩
      rw [List.length_map, List.length_range, Nat.zero_add]
      exact ⟨_, _, _, rfl⟩
  obtain ⟨r, h1, s3, s4, s5, rfl⟩ := loop
  have hc := whole_text w
  have cl := cells_len w (a := 0) (Nat.le_refl P.length)
  have jt : tl (Txt.join (Str.ofString "") (prts P P.length)) = cells P 0 P.length := by
    rw [join_eq, tl_join]
    have : tl (Str.ofString "") = [] := by rw [tl_ofString]; rfl
    rw [this, joinL_nil, prts_tl]
  have j1 : joinD (.str (Str.ofString "")) (.list ((prts P P.length).map .str)) = some (.str (Txt.join (Str.ofString "") (prts P P.length))) := by
    have l1 : (Str.ofString "").length = 0 := by rw [len_tl, tl_ofString]; rfl
    have s1 : ((prts P P.length).map (·.length)).sum = (cells P 0 P.length).length := by
      rw [← prts_tl, List.length_flatten, List.map_map]
      rfl
    unfold joinD
    simp only [strsD_map, Option.bind_some]
    rw [if_pos (by rw [l1, s1]; omega)]
  have r1 : rstripD (.str (Txt.join (Str.ofString "") (prts P P.length))) = some (.str (plT P)) := by
    have e : (Txt.join (Str.ofString "") (prts P P.length)).length ≤ LN := by rw [len_tl, jt]; show _ ≤ 16777216; omega
    refine (if_pos e).trans ?_
    congr 2
    obtain ⟨b, c, h2, h3⟩ := plT_last (P := P)
    exact ext_tl (rstrip_sp (jt.trans hc) h2 h3)
  have zr := zip_rows w.ne
  have lp : (P.map encR).length ≤ LN := by rw [List.length_map]; show _ ≤ 16777216; omega
  have lz : ((encN (P.map (·.1))).drop 1).length + 1 ≤ LN := by rw [List.length_drop, encN_len, List.length_map]; show _ ≤ 16777216; omega
  have ad : addD (.list ((encN (P.map (·.1))).drop 1)) (.list [.int 0]) = some (.list ((encN (P.map (·.1))).drop 1 ++ [.int 0])) := addD_list _ _ lz
  have ce : cutX (encN (P.map (·.1))) (some 1) none = (encN (P.map (·.1))).drop 1 := cutX_from _ 1
  have l1 : (1 : Nat) ≤ LN := by decide
  have l0 : (0 : Nat) ≤ LN := Nat.zero_le _
  have ep : encP P = .list (P.map encR) := rfl
  rw [ep] at c1 h1 ⊢
  generalize (prts P P.length).map PyData.str = ps at *
  generalize Txt.join (Str.ofString "") (prts P P.length) = jj at *
  generalize (List.range P.length).map (fun i => PyData.tuple [.tuple [.int (dep P i : Nat), .str (knd P i).nm], .int ((dep P (i + 1) : Nat) : Int)]) = zs at *
  generalize (encN (P.map (·.1))).drop 1 ++ [.int 0] = d0 at *
  generalize (encN (P.map (·.1))).drop 1 = d1 at *
  generalize encN (P.map (·.1)) = ds at *
  generalize P.map encR = pl at *
  generalize plT P = tx at *
  have hG : G_written_plan [.sh (.list pl), .un, .un, .un, .un, .un, .un] = some (.rt (.str tx) [.sh (.list pl), .ow ds, .ow ps, s3, s4, s5, .un]) := by
    unfold G_written_plan
    refine (gSeq_nx (e' := [.sh (.list pl), .ow ds, .un, .un, .un, .un, .un]) (by simp [TL.gSeq, TL.gIf, TL.gSet, TL.gOwn, TL.gRet, TL.gRetF, TL.gRetO, TL.gNx, TL.gNo, TL.gBk, TL.gCt, TL.gAsg, TL.fVar, TL.fC, TL.f2, TL.f1, TL.fCons, TL.fNil, TL.fTup, TL.fLst, TL.fCall, TL.fCallF, TL.fTold, TL.fIf, TL.fAnd, TL.fOr, TL.fNot, TL.fMapD, TL.fB, TL.bOr, TL.bAnd, TL.bNot, TL.bYes, TL.fCh, TL.iSeq, TL.iRg1, TL.iRg2, TL.iEn, TL.iZp, TL.aNm, TL.aTup, TL.aCons, TL.aNil, TL.fSl, TL.pSome, TL.pNo, TL.asI, TL.asN, TL.asB, TL.ent, TL.mV, TL.mF, TL.outV, TL.outF, TL.tyNe, TL.tyEq, TL.tyN, TL.lenD, TL.addD_int, TL.subD_int, TL.ltD_int, TL.leD_int, TL.gtD_int, TL.geD_int, TL.negD_int, TL.eqD_int, TL.neD_int, Function.comp_apply, TL.pur, TL.e2, TL.eTold, TL.eLst, TL.eCons, TL.eNil, TL.eTup, TL.eCall, TL.eCallF, TL.eB, TL.eNot, TL.eOr, TL.eAnd, TL.eIf, TL.eFrz, TL.fFrz, TL.frzE, TL.mgE, TL.gPar, TL.vT, TL.vF, TL.vNil, TL.stE, TL.gSetE, TL.gOwnE, TL.gIfE, TL.gRetE, TL.gRetFE, TL.gAppE, TL.gPutE, TL.gPut, TL.gApp, TL.gAsgE, TL.gDropE, TL.ownE, TL.fIxO, TL.eCallG, TL.eCallGF, TL.agSlot, TL.agVal, TL.agTmp, TL.agNil, TL.okAgs, TL.okSlots, TL.toSV, TL.backE, TL.isOw, TL.apart, TL.mE, TL.mEF, TL.outE, TL.outEF, TL.endE, TL.parE, TL.kpOk, List.range, List.range.loop, TL.gDict0, TL.gDPut, TL.fGetO, TL.odE, TL.keyD, TL.gApp2, TL.ooE, TL.gFrzO, TL.frzOE, TL.fLcO, TL.gOwnO, TL.fStar, TL.fCallK, TL.fCallFK, TL.permL, TL.eLc, TL.gAll, TL.gAllE, TL.fSlO, TL.fFrzL, TL.eFrzL, TL.fT, TL.truD, TL.isNN, TL.gExt, TL.asL, TL.gOoL, TL.allF, TL.fFrzO, TL.bFrzO, TL.gForApp, TL.fStp, TL.gPop, TL.divmodD, TL.fLrg, TL.eSlTo, TL.flatD, TL.bFrz, TL.gFrz, TL.fFrzL, TL.gRevO, TL.gClear, TL.gPopAt, TL.gIns, TL.ePop, TL.gAug, TL.gForE, TL.jSeq, TL.jRg1, TL.jRg2, TL.jEn, TL.iRg3, TL.iRvR, TL.vS, TL.fIxOd, TL.fGetO, TL.fDin, TL.fDinN, TL.odE, TL.gFrzD, TL.frzDE, TL.fKeys, TL.fVals, TL.fPairs, TL.f3, fLc, itemsD, lp, wipeE, c1])).trans ?_
    refine (gSeq_nx (e' := [.sh (.list pl), .ow ds, .ow [], .un, .un, .un, .un]) (by simp [TL.gSeq, TL.gIf, TL.gSet, TL.gOwn, TL.gRet, TL.gRetF, TL.gRetO, TL.gNx, TL.gNo, TL.gBk, TL.gCt, TL.gAsg, TL.fVar, TL.fC, TL.f2, TL.f1, TL.fCons, TL.fNil, TL.fTup, TL.fLst, TL.fCall, TL.fCallF, TL.fTold, TL.fIf, TL.fAnd, TL.fOr, TL.fNot, TL.fMapD, TL.fB, TL.bOr, TL.bAnd, TL.bNot, TL.bYes, TL.fCh, TL.iSeq, TL.iRg1, TL.iRg2, TL.iEn, TL.iZp, TL.aNm, TL.aTup, TL.aCons, TL.aNil, TL.fSl, TL.pSome, TL.pNo, TL.asI, TL.asN, TL.asB, TL.ent, TL.mV, TL.mF, TL.outV, TL.outF, TL.tyNe, TL.tyEq, TL.tyN, TL.lenD, TL.addD_int, TL.subD_int, TL.ltD_int, TL.leD_int, TL.gtD_int, TL.geD_int, TL.negD_int, TL.eqD_int, TL.neD_int, Function.comp_apply, TL.pur, TL.e2, TL.eTold, TL.eLst, TL.eCons, TL.eNil, TL.eTup, TL.eCall, TL.eCallF, TL.eB, TL.eNot, TL.eOr, TL.eAnd, TL.eIf, TL.eFrz, TL.fFrz, TL.frzE, TL.mgE, TL.gPar, TL.vT, TL.vF, TL.vNil, TL.stE, TL.gSetE, TL.gOwnE, TL.gIfE, TL.gRetE, TL.gRetFE, TL.gAppE, TL.gPutE, TL.gPut, TL.gApp, TL.gAsgE, TL.gDropE, TL.ownE, TL.fIxO, TL.eCallG, TL.eCallGF, TL.agSlot, TL.agVal, TL.agTmp, TL.agNil, TL.okAgs, TL.okSlots, TL.toSV, TL.backE, TL.isOw, TL.apart, TL.mE, TL.mEF, TL.outE, TL.outEF, TL.endE, TL.parE, TL.kpOk, List.range, List.range.loop, TL.gDict0, TL.gDPut, TL.fGetO, TL.odE, TL.keyD, TL.gApp2, TL.ooE, TL.gFrzO, TL.frzOE, TL.fLcO, TL.gOwnO, TL.fStar, TL.fCallK, TL.fCallFK, TL.permL, TL.eLc, TL.gAll, TL.gAllE, TL.fSlO, TL.fFrzL, TL.eFrzL, TL.fT, TL.truD, TL.isNN, TL.gExt, TL.asL, TL.gOoL, TL.allF, TL.fFrzO, TL.bFrzO, TL.gForApp, TL.fStp, TL.gPop, TL.divmodD, TL.fLrg, TL.eSlTo, TL.flatD, TL.bFrz, TL.gFrz, TL.fFrzL, TL.gRevO, TL.gClear, TL.gPopAt, TL.gIns, TL.ePop, TL.gAug, TL.gForE, TL.jSeq, TL.jRg1, TL.jRg2, TL.jEn, TL.iRg3, TL.iRvR, TL.vS, TL.fIxOd, TL.fGetO, TL.fDin, TL.fDinN, TL.odE, TL.gFrzD, TL.frzDE, TL.fKeys, TL.fVals, TL.fPairs, TL.f3, l0])).trans ?_
    refine (gSeq_nx (e' := [.sh (.list pl), .ow ds, .ow ps, s3, s4, s5, .un]) ?_).trans ?_
    · have : (iZp (fCons (fVar 0) (fCons (f2 addD (fTold (fSlO 1 (pSome (fC (.int 1))) pNo)) (fTold (fLst (fCons (fC (.int 0)) fNil)))) fNil))) [.sh (.list pl), .ow ds, .ow [], .un, .un, .un, .un] = some zs := by
        simp [TL.gSeq, TL.gIf, TL.gSet, TL.gOwn, TL.gRet, TL.gRetF, TL.gRetO, TL.gNx, TL.gNo, TL.gBk, TL.gCt, TL.gAsg, TL.fVar, TL.fC, TL.f2, TL.f1, TL.fCons, TL.fNil, TL.fTup, TL.fLst, TL.fCall, TL.fCallF, TL.fTold, TL.fIf, TL.fAnd, TL.fOr, TL.fNot, TL.fMapD, TL.fB, TL.bOr, TL.bAnd, TL.bNot, TL.bYes, TL.fCh, TL.iSeq, TL.iRg1, TL.iRg2, TL.iEn, TL.iZp, TL.aNm, TL.aTup, TL.aCons, TL.aNil, TL.fSl, TL.pSome, TL.pNo, TL.asI, TL.asN, TL.asB, TL.ent, TL.mV, TL.mF, TL.outV, TL.outF, TL.tyNe, TL.tyEq, TL.tyN, TL.lenD, TL.addD_int, TL.subD_int, TL.ltD_int, TL.leD_int, TL.gtD_int, TL.geD_int, TL.negD_int, TL.eqD_int, TL.neD_int, Function.comp_apply, TL.pur, TL.e2, TL.eTold, TL.eLst, TL.eCons, TL.eNil, TL.eTup, TL.eCall, TL.eCallF, TL.eB, TL.eNot, TL.eOr, TL.eAnd, TL.eIf, TL.eFrz, TL.fFrz, TL.frzE, TL.mgE, TL.gPar, TL.vT, TL.vF, TL.vNil, TL.stE, TL.gSetE, TL.gOwnE, TL.gIfE, TL.gRetE, TL.gRetFE, TL.gAppE, TL.gPutE, TL.gPut, TL.gApp, TL.gAsgE, TL.gDropE, TL.ownE, TL.fIxO, TL.eCallG, TL.eCallGF, TL.agSlot, TL.agVal, TL.agTmp, TL.agNil, TL.okAgs, TL.okSlots, TL.toSV, TL.backE, TL.isOw, TL.apart, TL.mE, TL.mEF, TL.outE, TL.outEF, TL.endE, TL.parE, TL.kpOk, List.range, List.range.loop, TL.gDict0, TL.gDPut, TL.fGetO, TL.odE, TL.keyD, TL.gApp2, TL.ooE, TL.gFrzO, TL.frzOE, TL.fLcO, TL.gOwnO, TL.fStar, TL.fCallK, TL.fCallFK, TL.permL, TL.eLc, TL.gAll, TL.gAllE, TL.fSlO, TL.fFrzL, TL.eFrzL, TL.fT, TL.truD, TL.isNN, TL.gExt, TL.asL, TL.gOoL, TL.allF, TL.fFrzO, TL.bFrzO, TL.gForApp, TL.fStp, TL.gPop, TL.divmodD, TL.fLrg, TL.eSlTo, TL.flatD, TL.bFrz, TL.gFrz, TL.fFrzL, TL.gRevO, TL.gClear, TL.gPopAt, TL.gIns, TL.ePop, TL.gAug, TL.gForE, TL.jSeq, TL.jRg1, TL.jRg2, TL.jEn, TL.iRg3, TL.iRvR, TL.vS, TL.fIxOd, TL.fGetO, TL.fDin, TL.fDinN, TL.odE, TL.gFrzD, TL.frzDE, TL.fKeys, TL.fVals, TL.fPairs, TL.f3, fSlO, ce, ad, l1, zr]
      unfold L_written_plan_1 gFor
      rw [this]; exact h1
    · simp [TL.gSeq, TL.gIf, TL.gSet, TL.gOwn, TL.gRet, TL.gRetF, TL.gRetO, TL.gNx, TL.gNo, TL.gBk, TL.gCt, TL.gAsg, TL.fVar, TL.fC, TL.f2, TL.f1, TL.fCons, TL.fNil, TL.fTup, TL.fLst, TL.fCall, TL.fCallF, TL.fTold, TL.fIf, TL.fAnd, TL.fOr, TL.fNot, TL.fMapD, TL.fB, TL.bOr, TL.bAnd, TL.bNot, TL.bYes, TL.fCh, TL.iSeq, TL.iRg1, TL.iRg2, TL.iEn, TL.iZp, TL.aNm, TL.aTup, TL.aCons, TL.aNil, TL.fSl, TL.pSome, TL.pNo, TL.asI, TL.asN, TL.asB, TL.ent, TL.mV, TL.mF, TL.outV, TL.outF, TL.tyNe, TL.tyEq, TL.tyN, TL.lenD, TL.addD_int, TL.subD_int, TL.ltD_int, TL.leD_int, TL.gtD_int, TL.geD_int, TL.negD_int, TL.eqD_int, TL.neD_int, Function.comp_apply, TL.pur, TL.e2, TL.eTold, TL.eLst, TL.eCons, TL.eNil, TL.eTup, TL.eCall, TL.eCallF, TL.eB, TL.eNot, TL.eOr, TL.eAnd, TL.eIf, TL.eFrz, TL.fFrz, TL.frzE, TL.mgE, TL.gPar, TL.vT, TL.vF, TL.vNil, TL.stE, TL.gSetE, TL.gOwnE, TL.gIfE, TL.gRetE, TL.gRetFE, TL.gAppE, TL.gPutE, TL.gPut, TL.gApp, TL.gAsgE, TL.gDropE, TL.ownE, TL.fIxO, TL.eCallG, TL.eCallGF, TL.agSlot, TL.agVal, TL.agTmp, TL.agNil, TL.okAgs, TL.okSlots, TL.toSV, TL.backE, TL.isOw, TL.apart, TL.mE, TL.mEF, TL.outE, TL.outEF, TL.endE, TL.parE, TL.kpOk, List.range, List.range.loop, TL.gDict0, TL.gDPut, TL.fGetO, TL.odE, TL.keyD, TL.gApp2, TL.ooE, TL.gFrzO, TL.frzOE, TL.fLcO, TL.gOwnO, TL.fStar, TL.fCallK, TL.fCallFK, TL.permL, TL.eLc, TL.gAll, TL.gAllE, TL.fSlO, TL.fFrzL, TL.eFrzL, TL.fT, TL.truD, TL.isNN, TL.gExt, TL.asL, TL.gOoL, TL.allF, TL.fFrzO, TL.bFrzO, TL.gForApp, TL.fStp, TL.gPop, TL.divmodD, TL.fLrg, TL.eSlTo, TL.flatD, TL.bFrz, TL.gFrz, TL.fFrzL, TL.gRevO, TL.gClear, TL.gPopAt, TL.gIns, TL.ePop, TL.gAug, TL.gForE, TL.jSeq, TL.jRg1, TL.jRg2, TL.jEn, TL.iRg3, TL.iRvR, TL.vS, TL.fIxOd, TL.fGetO, TL.fDin, TL.fDinN, TL.odE, TL.gFrzD, TL.frzDE, TL.fKeys, TL.fVals, TL.fPairs, TL.f3, j1, r1]
  unfold M_written_plan
  generalize G_written_plan = GG at *
  simp [TL.gSeq, TL.gIf, TL.gSet, TL.gOwn, TL.gRet, TL.gRetF, TL.gRetO, TL.gNx, TL.gNo, TL.gBk, TL.gCt, TL.gAsg, TL.fVar, TL.fC, TL.f2, TL.f1, TL.fCons, TL.fNil, TL.fTup, TL.fLst, TL.fCall, TL.fCallF, TL.fTold, TL.fIf, TL.fAnd, TL.fOr, TL.fNot, TL.fMapD, TL.fB, TL.bOr, TL.bAnd, TL.bNot, TL.bYes, TL.fCh, TL.iSeq, TL.iRg1, TL.iRg2, TL.iEn, TL.iZp, TL.aNm, TL.aTup, TL.aCons, TL.aNil, TL.fSl, TL.pSome, TL.pNo, TL.asI, TL.asN, TL.asB, TL.ent, TL.mV, TL.mF, TL.outV, TL.outF, TL.tyNe, TL.tyEq, TL.tyN, TL.lenD, TL.addD_int, TL.subD_int, TL.ltD_int, TL.leD_int, TL.gtD_int, TL.geD_int, TL.negD_int, TL.eqD_int, TL.neD_int, Function.comp_apply, TL.pur, TL.e2, TL.eTold, TL.eLst, TL.eCons, TL.eNil, TL.eTup, TL.eCall, TL.eCallF, TL.eB, TL.eNot, TL.eOr, TL.eAnd, TL.eIf, TL.eFrz, TL.fFrz, TL.frzE, TL.mgE, TL.gPar, TL.vT, TL.vF, TL.vNil, TL.stE, TL.gSetE, TL.gOwnE, TL.gIfE, TL.gRetE, TL.gRetFE, TL.gAppE, TL.gPutE, TL.gPut, TL.gApp, TL.gAsgE, TL.gDropE, TL.ownE, TL.fIxO, TL.eCallG, TL.eCallGF, TL.agSlot, TL.agVal, TL.agTmp, TL.agNil, TL.okAgs, TL.okSlots, TL.toSV, TL.backE, TL.isOw, TL.apart, TL.mE, TL.mEF, TL.outE, TL.outEF, TL.endE, TL.parE, TL.kpOk, List.range, List.range.loop, hG]
theorem word_row {s0 s3 : SV} {d : Int} {rows : List D} (hl : rows.length < LN) (k : Kd) (rest : List D) : forG (aNm 3) B_depths_and_words_1 (.str k.nm :: rest) [s0, .sh (.int d), .ow rows, s3] = forG (aNm 3) B_depths_and_words_1 rest [s0, .sh (.int d), .ow (rows ++ [.tuple [.int d, .str k.nm]]), .sh (.str k.nm)] := by
  obtain ⟨e1, e2⟩ := nm_eqs k
  refine for_step (e2 := [s0, .sh (.int d), .ow rows, .sh (.str k.nm)]) rfl ?_
  have l2 : (2 : Nat) ≤ LN := by decide
  generalize k.nm = nm at *
  simp [TL.gSeq, TL.gIf, TL.gSet, TL.gOwn, TL.gRet, TL.gRetF, TL.gRetO, TL.gNx, TL.gNo, TL.gBk, TL.gCt, TL.gAsg, TL.fVar, TL.fC, TL.f2, TL.f1, TL.fCons, TL.fNil, TL.fTup, TL.fLst, TL.fCall, TL.fCallF, TL.fTold, TL.fIf, TL.fAnd, TL.fOr, TL.fNot, TL.fMapD, TL.fB, TL.bOr, TL.bAnd, TL.bNot, TL.bYes, TL.fCh, TL.iSeq, TL.iRg1, TL.iRg2, TL.iEn, TL.iZp, TL.aNm, TL.aTup, TL.aCons, TL.aNil, TL.fSl, TL.pSome, TL.pNo, TL.asI, TL.asN, TL.asB, TL.ent, TL.mV, TL.mF, TL.outV, TL.outF, TL.tyNe, TL.tyEq, TL.tyN, TL.lenD, TL.addD_int, TL.subD_int, TL.ltD_int, TL.leD_int, TL.gtD_int, TL.geD_int, TL.negD_int, TL.eqD_int, TL.neD_int, Function.comp_apply, TL.pur, TL.e2, TL.eTold, TL.eLst, TL.eCons, TL.eNil, TL.eTup, TL.eCall, TL.eCallF, TL.eB, TL.eNot, TL.eOr, TL.eAnd, TL.eIf, TL.eFrz, TL.fFrz, TL.frzE, TL.mgE, TL.gPar, TL.vT, TL.vF, TL.vNil, TL.stE, TL.gSetE, TL.gOwnE, TL.gIfE, TL.gRetE, TL.gRetFE, TL.gAppE, TL.gPutE, TL.gPut, TL.gApp, TL.gAsgE, TL.gDropE, TL.ownE, TL.fIxO, TL.eCallG, TL.eCallGF, TL.agSlot, TL.agVal, TL.agTmp, TL.agNil, TL.okAgs, TL.okSlots, TL.toSV, TL.backE, TL.isOw, TL.apart, TL.mE, TL.mEF, TL.outE, TL.outEF, TL.endE, TL.parE, TL.kpOk, List.range, List.range.loop, TL.gDict0, TL.gDPut, TL.fGetO, TL.odE, TL.keyD, TL.gApp2, TL.ooE, TL.gFrzO, TL.frzOE, TL.fLcO, TL.gOwnO, TL.fStar, TL.fCallK, TL.fCallFK, TL.permL, TL.eLc, TL.gAll, TL.gAllE, TL.fSlO, TL.fFrzL, TL.eFrzL, TL.fT, TL.truD, TL.isNN, TL.gExt, TL.asL, TL.gOoL, TL.allF, TL.fFrzO, TL.bFrzO, TL.gForApp, TL.fStp, TL.gPop, TL.divmodD, TL.fLrg, TL.eSlTo, TL.flatD, TL.bFrz, TL.gFrz, TL.fFrzL, TL.gRevO, TL.gClear, TL.gPopAt, TL.gIns, TL.ePop, TL.gAug, TL.gForE, TL.jSeq, TL.jRg1, TL.jRg2, TL.jEn, TL.iRg3, TL.iRvR, TL.vS, TL.fIxOd, TL.fGetO, TL.fDin, TL.fDinN, TL.odE, TL.gFrzD, TL.frzDE, TL.fKeys, TL.fVals, TL.fPairs, TL.f3, B_depths_and_words_1, e1, e2, hl, l2]
theorem word_open {s0 s2 s3 : SV} {d : Int} (rest : List D) : forG (aNm 3) B_depths_and_words_1 (.str (Str.ofString "(") :: rest) [s0, .sh (.int d), s2, s3] = forG (aNm 3) B_depths_and_words_1 rest [s0, .sh (.int (d + 1)), s2, .sh (.str (Str.ofString "("))] := by
  have e1 : eqD (.str (Str.ofString "(")) (.str (Str.ofString "(")) = some (.bool true) := eqD_str _
  refine for_step (e2 := [s0, .sh (.int d), s2, .sh (.str (Str.ofString "("))]) rfl ?_
  simp [TL.gSeq, TL.gIf, TL.gSet, TL.gOwn, TL.gRet, TL.gRetF, TL.gRetO, TL.gNx, TL.gNo, TL.gBk, TL.gCt, TL.gAsg, TL.fVar, TL.fC, TL.f2, TL.f1, TL.fCons, TL.fNil, TL.fTup, TL.fLst, TL.fCall, TL.fCallF, TL.fTold, TL.fIf, TL.fAnd, TL.fOr, TL.fNot, TL.fMapD, TL.fB, TL.bOr, TL.bAnd, TL.bNot, TL.bYes, TL.fCh, TL.iSeq, TL.iRg1, TL.iRg2, TL.iEn, TL.iZp, TL.aNm, TL.aTup, TL.aCons, TL.aNil, TL.fSl, TL.pSome, TL.pNo, TL.asI, TL.asN, TL.asB, TL.ent, TL.mV, TL.mF, TL.outV, TL.outF, TL.tyNe, TL.tyEq, TL.tyN, TL.lenD, TL.addD_int, TL.subD_int, TL.ltD_int, TL.leD_int, TL.gtD_int, TL.geD_int, TL.negD_int, TL.eqD_int, TL.neD_int, Function.comp_apply, TL.pur, TL.e2, TL.eTold, TL.eLst, TL.eCons, TL.eNil, TL.eTup, TL.eCall, TL.eCallF, TL.eB, TL.eNot, TL.eOr, TL.eAnd, TL.eIf, TL.eFrz, TL.fFrz, TL.frzE, TL.mgE, TL.gPar, TL.vT, TL.vF, TL.vNil, TL.stE, TL.gSetE, TL.gOwnE, TL.gIfE, TL.gRetE, TL.gRetFE, TL.gAppE, TL.gPutE, TL.gPut, TL.gApp, TL.gAsgE, TL.gDropE, TL.ownE, TL.fIxO, TL.eCallG, TL.eCallGF, TL.agSlot, TL.agVal, TL.agTmp, TL.agNil, TL.okAgs, TL.okSlots, TL.toSV, TL.backE, TL.isOw, TL.apart, TL.mE, TL.mEF, TL.outE, TL.outEF, TL.endE, TL.parE, TL.kpOk, List.range, List.range.loop, TL.gDict0, TL.gDPut, TL.fGetO, TL.odE, TL.keyD, TL.gApp2, TL.ooE, TL.gFrzO, TL.frzOE, TL.fLcO, TL.gOwnO, TL.fStar, TL.fCallK, TL.fCallFK, TL.permL, TL.eLc, TL.gAll, TL.gAllE, TL.fSlO, TL.fFrzL, TL.eFrzL, TL.fT, TL.truD, TL.isNN, TL.gExt, TL.asL, TL.gOoL, TL.allF, TL.fFrzO, TL.bFrzO, TL.gForApp, TL.fStp, TL.gPop, TL.divmodD, TL.fLrg, TL.eSlTo, TL.flatD, TL.bFrz, TL.gFrz, TL.fFrzL, TL.gRevO, TL.gClear, TL.gPopAt, TL.gIns, TL.ePop, TL.gAug, TL.gForE, TL.jSeq, TL.jRg1, TL.jRg2, TL.jEn, TL.iRg3, TL.iRvR, TL.vS, TL.fIxOd, TL.fGetO, TL.fDin, TL.fDinN, TL.odE, TL.gFrzD, TL.frzDE, TL.fKeys, TL.fVals, TL.fPairs, TL.f3, B_depths_and_words_1, e1, gAug]
theorem word_close {s0 s2 s3 : SV} {d : Int} (rest : List D) : forG (aNm 3) B_depths_and_words_1 (.str (Str.ofString ")") :: rest) [s0, .sh (.int d), s2, s3] = forG (aNm 3) B_depths_and_words_1 rest [s0, .sh (.int (d - 1)), s2, .sh (.str (Str.ofString ")"))] := by
  have e1 : eqD (.str (Str.ofString ")")) (.str (Str.ofString "(")) = some (.bool false) := rfl
  have e2 : eqD (.str (Str.ofString ")")) (.str (Str.ofString ")")) = some (.bool true) := eqD_str _
  refine for_step (e2 := [s0, .sh (.int d), s2, .sh (.str (Str.ofString ")"))]) rfl ?_
  simp [TL.gSeq, TL.gIf, TL.gSet, TL.gOwn, TL.gRet, TL.gRetF, TL.gRetO, TL.gNx, TL.gNo, TL.gBk, TL.gCt, TL.gAsg, TL.fVar, TL.fC, TL.f2, TL.f1, TL.fCons, TL.fNil, TL.fTup, TL.fLst, TL.fCall, TL.fCallF, TL.fTold, TL.fIf, TL.fAnd, TL.fOr, TL.fNot, TL.fMapD, TL.fB, TL.bOr, TL.bAnd, TL.bNot, TL.bYes, TL.fCh, TL.iSeq, TL.iRg1, TL.iRg2, TL.iEn, TL.iZp, TL.aNm, TL.aTup, TL.aCons, TL.aNil, TL.fSl, TL.pSome, TL.pNo, TL.asI, TL.asN, TL.asB, TL.ent, TL.mV, TL.mF, TL.outV, TL.outF, TL.tyNe, TL.tyEq, TL.tyN, TL.lenD, TL.addD_int, TL.subD_int, TL.ltD_int, TL.leD_int, TL.gtD_int, TL.geD_int, TL.negD_int, TL.eqD_int, TL.neD_int, Function.comp_apply, TL.pur, TL.e2, TL.eTold, TL.eLst, TL.eCons, TL.eNil, TL.eTup, TL.eCall, TL.eCallF, TL.eB, TL.eNot, TL.eOr, TL.eAnd, TL.eIf, TL.eFrz, TL.fFrz, TL.frzE, TL.mgE, TL.gPar, TL.vT, TL.vF, TL.vNil, TL.stE, TL.gSetE, TL.gOwnE, TL.gIfE, TL.gRetE, TL.gRetFE, TL.gAppE, TL.gPutE, TL.gPut, TL.gApp, TL.gAsgE, TL.gDropE, TL.ownE, TL.fIxO, TL.eCallG, TL.eCallGF, TL.agSlot, TL.agVal, TL.agTmp, TL.agNil, TL.okAgs, TL.okSlots, TL.toSV, TL.backE, TL.isOw, TL.apart, TL.mE, TL.mEF, TL.outE, TL.outEF, TL.endE, TL.parE, TL.kpOk, List.range, List.range.loop, TL.gDict0, TL.gDPut, TL.fGetO, TL.odE, TL.keyD, TL.gApp2, TL.ooE, TL.gFrzO, TL.frzOE, TL.fLcO, TL.gOwnO, TL.fStar, TL.fCallK, TL.fCallFK, TL.permL, TL.eLc, TL.gAll, TL.gAllE, TL.fSlO, TL.fFrzL, TL.eFrzL, TL.fT, TL.truD, TL.isNN, TL.gExt, TL.asL, TL.gOoL, TL.allF, TL.fFrzO, TL.bFrzO, TL.gForApp, TL.fStp, TL.gPop, TL.divmodD, TL.fLrg, TL.eSlTo, TL.flatD, TL.bFrz, TL.gFrz, TL.fFrzL, TL.gRevO, TL.gClear, TL.gPopAt, TL.gIns, TL.ePop, TL.gAug, TL.gForE, TL.jSeq, TL.jRg1, TL.jRg2, TL.jEn, TL.iRg3, TL.iRvR, TL.vS, TL.fIxOd, TL.fGetO, TL.fDin, TL.fDinN, TL.odE, TL.gFrzD, TL.frzDE, TL.fKeys, TL.fVals, TL.fPairs, TL.f3, B_depths_and_words_1, e1, e2, gAug]
theorem words_close {s0 s2 : SV} (rest : List D) : ∀ (k : Nat) (d : Int) (s3 : SV), ∃ t3, forG (aNm 3) B_depths_and_words_1 ((List.replicate k (Str.ofString ")")).map .str ++ rest) [s0, .sh (.int d), s2, s3] = forG (aNm 3) B_depths_and_words_1 rest [s0, .sh (.int (d - (k : Int))), s2, t3]
  | 0, d, s3 => ⟨s3, by
      have : d - ((0 : Nat) : Int) = d := by omega
      rw [this]; rfl⟩
  | k + 1, d, s3 => by
    obtain ⟨t3, ih⟩ := words_close (s0 := s0) (s2 := s2) rest k (d - 1) (.sh (.str (Str.ofString ")")))
    refine ⟨t3, ?_⟩
    rw [List.replicate_succ, List.map_cons, List.cons_append, word_close, ih]
    have : d - 1 - (k : Int) = d - ((k + 1 : Nat) : Int) := by omega
    rw [this]
theorem cell_words {P : Pl} (w : WF P) {i : Nat} (hi : i < P.length) {s0 s3 : SV} (rest : List D) : ∃ t3, forG (aNm 3) B_depths_and_words_1 ((tokS P i).map .str ++ rest) [s0, .sh (.int ((dep P i : Nat) : Int)), .ow ((P.take i).map encR), s3] = forG (aNm 3) B_depths_and_words_1 rest [s0, .sh (.int ((dep P (i + 1) : Nat) : Int)), .ow ((P.take (i + 1)).map encR), t3] := by
  have le := w.le
  have hl : ((P.take i).map encR).length < LN := by rw [List.length_map, List.length_take]; show _ < 16777216; omega
  have er : (P.take (i + 1)).map encR = (P.take i).map encR ++ [.tuple [.int ((dep P i : Nat) : Int), .str (knd P i).nm]] := by
    rw [List.take_add_one, List.map_append, List.getElem?_eq_getElem hi, nm_ix hi, dep_get hi]; rfl
  rw [er]
  unfold tokS
  rw [List.map_cons, List.cons_append, word_row hl]
  by_cases c : dep P i < dep P (i + 1)
  · rw [if_pos c]
    have hn : i + 1 < P.length := by
      by_cases z : i + 1 < P.length
      · exact z
      · rw [dep_out (by omega : P.length ≤ i + 1)] at c; omega
    have hd : dep P (i + 1) = dep P i + 1 := by have := (w.up i hn).2; omega
    refine ⟨.sh (.str (Str.ofString "(")), ?_⟩
    show forG _ _ (.str (Str.ofString "(") :: rest) _ = _
    rw [word_open, hd]
    rfl
  · rw [if_neg c]
    obtain ⟨t3, h⟩ := words_close (s0 := s0) (s2 := .ow ((P.take i).map encR ++ [.tuple [.int ((dep P i : Nat) : Int), .str (knd P i).nm]])) rest (dep P i - dep P (i + 1)) ((dep P i : Nat) : Int) (.sh (.str (knd P i).nm))
    refine ⟨t3, h.trans ?_⟩
    have : ((dep P i : Nat) : Int) - ((dep P i - dep P (i + 1) : Nat) : Int) = ((dep P (i + 1) : Nat) : Int) := by omega
    rw [this]
theorem all_words {P : Pl} (w : WF P) {s0 s3 : SV} : ∀ m, m ≤ P.length → ∀ rest : List D, ∃ t3, forG (aNm 3) B_depths_and_words_1 (((List.range m).flatMap (tokS P)).map .str ++ rest) [s0, .sh (.int 0), .ow [], s3] = forG (aNm 3) B_depths_and_words_1 rest [s0, .sh (.int ((dep P m : Nat) : Int)), .ow ((P.take m).map encR), t3]
  | 0, _, rest => ⟨s3, by rw [w.z]; rfl⟩
  | m + 1, hm, rest => by
    obtain ⟨u3, ih⟩ := all_words w (s0 := s0) (s3 := s3) m (by omega) ((tokS P m).map .str ++ rest)
    obtain ⟨t3, h⟩ := cell_words w (i := m) (by omega) (s0 := s0) (s3 := u3) rest
    refine ⟨t3, ?_⟩
    have e : (List.range (m + 1)).flatMap (tokS P) = (List.range m).flatMap (tokS P) ++ tokS P m := by
      rw [List.range_succ, List.flatMap_append]
      congr 1
      show tokS P m ++ [] = _
      rw [List.append_nil]
    rw [e, List.map_append, List.append_assoc, ih, h]
theorem depths_and_words {P : Pl} (w : WF P) : M_depths_and_words [.str (plT P)] = some (P.map encR) := by
  have le := w.le
  obtain ⟨t3, h1⟩ := all_words w (s0 := .sh (.str (plT P))) (s3 := .un) P.length (Nat.le_refl _) []
  rw [List.append_nil, List.take_length] at h1
  have pl := plT_len w
  have hz : (Str.ofString " ( ").length = 3 := by decide +kernel
  have hz2 : (Str.ofString " ) ").length = 3 := by decide +kernel
  have len1 : (Txt.replace (plT P) (Str.ofString "(") (Str.ofString " ( ")).length ≤ 8100 := by
    have := TK.replace_len (plT P) (Str.ofString "(") (Str.ofString " ( ")
    rw [hz] at this
    omega
  have r1 : replD (Str.ofString "(") (Str.ofString " ( ") (.str (plT P)) = some (.str (Txt.replace (plT P) (Str.ofString "(") (Str.ofString " ( "))) := if_pos (by rw [hz]; omega)
  have r2 : replD (Str.ofString ")") (Str.ofString " ) ") (.str (Txt.replace (plT P) (Str.ofString "(") (Str.ofString " ( "))) = some (.str (Txt.replace (Txt.replace (plT P) (Str.ofString "(") (Str.ofString " ( ")) (Str.ofString ")") (Str.ofString " ) "))) := if_pos (by rw [hz2]; omega)
  have pw := plan_words w
  have lt : (Txt.replace (Txt.replace (plT P) (Str.ofString "(") (Str.ofString " ( ")) (Str.ofString ")") (Str.ofString " ) ")).length + 2 ≤ LN := by
    rw [len_tl, repl_both]
    have := ex_len (tl (plT P))
    rw [← len_tl (plT P)] at this
    show _ ≤ 16777216; omega
  generalize Txt.replace (Txt.replace (plT P) (Str.ofString "(") (Str.ofString " ( ")) (Str.ofString ")") (Str.ofString " ) ") = x2 at *
  generalize Txt.replace (plT P) (Str.ofString "(") (Str.ofString " ( ") = x1 at *
  generalize (List.range P.length).flatMap (tokS P) = tk at *
  generalize P.map encR = rows at *
  generalize ((dep P P.length : Nat) : Int) = dd at *
  generalize plT P = tx at *
  have l0 : (0 : Nat) ≤ LN := Nat.zero_le _
  have hf : (iSeq (fTold (fWords (f1 (replD (Str.ofString ")") (Str.ofString " ) ")) (f1 (replD (Str.ofString "(") (Str.ofString " ( ")) (fVar 0)))))) [.sh (.str tx), .sh (.int 0), .ow [], .un] = some (tk.map .str) := by
    simp [TL.gSeq, TL.gIf, TL.gSet, TL.gOwn, TL.gRet, TL.gRetF, TL.gRetO, TL.gNx, TL.gNo, TL.gBk, TL.gCt, TL.gAsg, TL.fVar, TL.fC, TL.f2, TL.f1, TL.fCons, TL.fNil, TL.fTup, TL.fLst, TL.fCall, TL.fCallF, TL.fTold, TL.fIf, TL.fAnd, TL.fOr, TL.fNot, TL.fMapD, TL.fB, TL.bOr, TL.bAnd, TL.bNot, TL.bYes, TL.fCh, TL.iSeq, TL.iRg1, TL.iRg2, TL.iEn, TL.iZp, TL.aNm, TL.aTup, TL.aCons, TL.aNil, TL.fSl, TL.pSome, TL.pNo, TL.asI, TL.asN, TL.asB, TL.ent, TL.mV, TL.mF, TL.outV, TL.outF, TL.tyNe, TL.tyEq, TL.tyN, TL.lenD, TL.addD_int, TL.subD_int, TL.ltD_int, TL.leD_int, TL.gtD_int, TL.geD_int, TL.negD_int, TL.eqD_int, TL.neD_int, Function.comp_apply, TL.pur, TL.e2, TL.eTold, TL.eLst, TL.eCons, TL.eNil, TL.eTup, TL.eCall, TL.eCallF, TL.eB, TL.eNot, TL.eOr, TL.eAnd, TL.eIf, TL.eFrz, TL.fFrz, TL.frzE, TL.mgE, TL.gPar, TL.vT, TL.vF, TL.vNil, TL.stE, TL.gSetE, TL.gOwnE, TL.gIfE, TL.gRetE, TL.gRetFE, TL.gAppE, TL.gPutE, TL.gPut, TL.gApp, TL.gAsgE, TL.gDropE, TL.ownE, TL.fIxO, TL.eCallG, TL.eCallGF, TL.agSlot, TL.agVal, TL.agTmp, TL.agNil, TL.okAgs, TL.okSlots, TL.toSV, TL.backE, TL.isOw, TL.apart, TL.mE, TL.mEF, TL.outE, TL.outEF, TL.endE, TL.parE, TL.kpOk, List.range, List.range.loop, TL.gDict0, TL.gDPut, TL.fGetO, TL.odE, TL.keyD, TL.gApp2, TL.ooE, TL.gFrzO, TL.frzOE, TL.fLcO, TL.gOwnO, TL.fStar, TL.fCallK, TL.fCallFK, TL.permL, TL.eLc, TL.gAll, TL.gAllE, TL.fSlO, TL.fFrzL, TL.eFrzL, TL.fT, TL.truD, TL.isNN, TL.gExt, TL.asL, TL.gOoL, TL.allF, TL.fFrzO, TL.bFrzO, TL.gForApp, TL.fStp, TL.gPop, TL.divmodD, TL.fLrg, TL.eSlTo, TL.flatD, TL.bFrz, TL.gFrz, TL.fFrzL, TL.gRevO, TL.gClear, TL.gPopAt, TL.gIns, TL.ePop, TL.gAug, TL.gForE, TL.jSeq, TL.jRg1, TL.jRg2, TL.jEn, TL.iRg3, TL.iRvR, TL.vS, TL.fIxOd, TL.fGetO, TL.fDin, TL.fDinN, TL.odE, TL.gFrzD, TL.frzDE, TL.fKeys, TL.fVals, TL.fPairs, TL.f3, iSeq, fWords, r1, r2, lt, pw]
  have h1 : forG (aNm 3) B_depths_and_words_1 (tk.map .str) [.sh (.str tx), .sh (.int 0), .ow [], .un] = some (.nx [.sh (.str tx), .sh (.int dd), .ow rows, t3]) := h1
  have hG : G_depths_and_words [.sh (.str tx), .un, .un, .un] = some (.rf rows [.sh (.str tx), .sh (.int dd), .ow rows, t3]) := by
    unfold G_depths_and_words
    refine (gSeq_nx (e' := [.sh (.str tx), .sh (.int 0), .un, .un]) (by simp [TL.gSeq, TL.gIf, TL.gSet, TL.gOwn, TL.gRet, TL.gRetF, TL.gRetO, TL.gNx, TL.gNo, TL.gBk, TL.gCt, TL.gAsg, TL.fVar, TL.fC, TL.f2, TL.f1, TL.fCons, TL.fNil, TL.fTup, TL.fLst, TL.fCall, TL.fCallF, TL.fTold, TL.fIf, TL.fAnd, TL.fOr, TL.fNot, TL.fMapD, TL.fB, TL.bOr, TL.bAnd, TL.bNot, TL.bYes, TL.fCh, TL.iSeq, TL.iRg1, TL.iRg2, TL.iEn, TL.iZp, TL.aNm, TL.aTup, TL.aCons, TL.aNil, TL.fSl, TL.pSome, TL.pNo, TL.asI, TL.asN, TL.asB, TL.ent, TL.mV, TL.mF, TL.outV, TL.outF, TL.tyNe, TL.tyEq, TL.tyN, TL.lenD, TL.addD_int, TL.subD_int, TL.ltD_int, TL.leD_int, TL.gtD_int, TL.geD_int, TL.negD_int, TL.eqD_int, TL.neD_int, Function.comp_apply, TL.pur, TL.e2, TL.eTold, TL.eLst, TL.eCons, TL.eNil, TL.eTup, TL.eCall, TL.eCallF, TL.eB, TL.eNot, TL.eOr, TL.eAnd, TL.eIf, TL.eFrz, TL.fFrz, TL.frzE, TL.mgE, TL.gPar, TL.vT, TL.vF, TL.vNil, TL.stE, TL.gSetE, TL.gOwnE, TL.gIfE, TL.gRetE, TL.gRetFE, TL.gAppE, TL.gPutE, TL.gPut, TL.gApp, TL.gAsgE, TL.gDropE, TL.ownE, TL.fIxO, TL.eCallG, TL.eCallGF, TL.agSlot, TL.agVal, TL.agTmp, TL.agNil, TL.okAgs, TL.okSlots, TL.toSV, TL.backE, TL.isOw, TL.apart, TL.mE, TL.mEF, TL.outE, TL.outEF, TL.endE, TL.parE, TL.kpOk, List.range, List.range.loop, TL.gDict0, TL.gDPut, TL.fGetO, TL.odE, TL.keyD, TL.gApp2, TL.ooE, TL.gFrzO, TL.frzOE, TL.fLcO, TL.gOwnO, TL.fStar, TL.fCallK, TL.fCallFK, TL.permL, TL.eLc, TL.gAll, TL.gAllE, TL.fSlO, TL.fFrzL, TL.eFrzL, TL.fT, TL.truD, TL.isNN, TL.gExt, TL.asL, TL.gOoL, TL.allF, TL.fFrzO, TL.bFrzO, TL.gForApp, TL.fStp, TL.gPop, TL.divmodD, TL.fLrg, TL.eSlTo, TL.flatD, TL.bFrz, TL.gFrz, TL.fFrzL, TL.gRevO, TL.gClear, TL.gPopAt, TL.gIns, TL.ePop, TL.gAug, TL.gForE, TL.jSeq, TL.jRg1, TL.jRg2, TL.jEn, TL.iRg3, TL.iRvR, TL.vS, TL.fIxOd, TL.fGetO, TL.fDin, TL.fDinN, TL.odE, TL.gFrzD, TL.frzDE, TL.fKeys, TL.fVals, TL.fPairs, TL.f3, ])).trans ?_
    refine (gSeq_nx (e' := [.sh (.str tx), .sh (.int 0), .ow [], .un]) (by simp [TL.gSeq, TL.gIf, TL.gSet, TL.gOwn, TL.gRet, TL.gRetF, TL.gRetO, TL.gNx, TL.gNo, TL.gBk, TL.gCt, TL.gAsg, TL.fVar, TL.fC, TL.f2, TL.f1, TL.fCons, TL.fNil, TL.fTup, TL.fLst, TL.fCall, TL.fCallF, TL.fTold, TL.fIf, TL.fAnd, TL.fOr, TL.fNot, TL.fMapD, TL.fB, TL.bOr, TL.bAnd, TL.bNot, TL.bYes, TL.fCh, TL.iSeq, TL.iRg1, TL.iRg2, TL.iEn, TL.iZp, TL.aNm, TL.aTup, TL.aCons, TL.aNil, TL.fSl, TL.pSome, TL.pNo, TL.asI, TL.asN, TL.asB, TL.ent, TL.mV, TL.mF, TL.outV, TL.outF, TL.tyNe, TL.tyEq, TL.tyN, TL.lenD, TL.addD_int, TL.subD_int, TL.ltD_int, TL.leD_int, TL.gtD_int, TL.geD_int, TL.negD_int, TL.eqD_int, TL.neD_int, Function.comp_apply, TL.pur, TL.e2, TL.eTold, TL.eLst, TL.eCons, TL.eNil, TL.eTup, TL.eCall, TL.eCallF, TL.eB, TL.eNot, TL.eOr, TL.eAnd, TL.eIf, TL.eFrz, TL.fFrz, TL.frzE, TL.mgE, TL.gPar, TL.vT, TL.vF, TL.vNil, TL.stE, TL.gSetE, TL.gOwnE, TL.gIfE, TL.gRetE, TL.gRetFE, TL.gAppE, TL.gPutE, TL.gPut, TL.gApp, TL.gAsgE, TL.gDropE, TL.ownE, TL.fIxO, TL.eCallG, TL.eCallGF, TL.agSlot, TL.agVal, TL.agTmp, TL.agNil, TL.okAgs, TL.okSlots, TL.toSV, TL.backE, TL.isOw, TL.apart, TL.mE, TL.mEF, TL.outE, TL.outEF, TL.endE, TL.parE, TL.kpOk, List.range, List.range.loop, TL.gDict0, TL.gDPut, TL.fGetO, TL.odE, TL.keyD, TL.gApp2, TL.ooE, TL.gFrzO, TL.frzOE, TL.fLcO, TL.gOwnO, TL.fStar, TL.fCallK, TL.fCallFK, TL.permL, TL.eLc, TL.gAll, TL.gAllE, TL.fSlO, TL.fFrzL, TL.eFrzL, TL.fT, TL.truD, TL.isNN, TL.gExt, TL.asL, TL.gOoL, TL.allF, TL.fFrzO, TL.bFrzO, TL.gForApp, TL.fStp, TL.gPop, TL.divmodD, TL.fLrg, TL.eSlTo, TL.flatD, TL.bFrz, TL.gFrz, TL.fFrzL, TL.gRevO, TL.gClear, TL.gPopAt, TL.gIns, TL.ePop, TL.gAug, TL.gForE, TL.jSeq, TL.jRg1, TL.jRg2, TL.jEn, TL.iRg3, TL.iRvR, TL.vS, TL.fIxOd, TL.fGetO, TL.fDin, TL.fDinN, TL.odE, TL.gFrzD, TL.frzDE, TL.fKeys, TL.fVals, TL.fPairs, TL.f3, l0])).trans ?_
    refine (gSeq_nx (e' := [.sh (.str tx), .sh (.int dd), .ow rows, t3]) ?_).trans ?_
    · unfold L_depths_and_words_1 gFor
      rw [hf]; exact h1
    · simp [TL.gSeq, TL.gIf, TL.gSet, TL.gOwn, TL.gRet, TL.gRetF, TL.gRetO, TL.gNx, TL.gNo, TL.gBk, TL.gCt, TL.gAsg, TL.fVar, TL.fC, TL.f2, TL.f1, TL.fCons, TL.fNil, TL.fTup, TL.fLst, TL.fCall, TL.fCallF, TL.fTold, TL.fIf, TL.fAnd, TL.fOr, TL.fNot, TL.fMapD, TL.fB, TL.bOr, TL.bAnd, TL.bNot, TL.bYes, TL.fCh, TL.iSeq, TL.iRg1, TL.iRg2, TL.iEn, TL.iZp, TL.aNm, TL.aTup, TL.aCons, TL.aNil, TL.fSl, TL.pSome, TL.pNo, TL.asI, TL.asN, TL.asB, TL.ent, TL.mV, TL.mF, TL.outV, TL.outF, TL.tyNe, TL.tyEq, TL.tyN, TL.lenD, TL.addD_int, TL.subD_int, TL.ltD_int, TL.leD_int, TL.gtD_int, TL.geD_int, TL.negD_int, TL.eqD_int, TL.neD_int, Function.comp_apply, TL.pur, TL.e2, TL.eTold, TL.eLst, TL.eCons, TL.eNil, TL.eTup, TL.eCall, TL.eCallF, TL.eB, TL.eNot, TL.eOr, TL.eAnd, TL.eIf, TL.eFrz, TL.fFrz, TL.frzE, TL.mgE, TL.gPar, TL.vT, TL.vF, TL.vNil, TL.stE, TL.gSetE, TL.gOwnE, TL.gIfE, TL.gRetE, TL.gRetFE, TL.gAppE, TL.gPutE, TL.gPut, TL.gApp, TL.gAsgE, TL.gDropE, TL.ownE, TL.fIxO, TL.eCallG, TL.eCallGF, TL.agSlot, TL.agVal, TL.agTmp, TL.agNil, TL.okAgs, TL.okSlots, TL.toSV, TL.backE, TL.isOw, TL.apart, TL.mE, TL.mEF, TL.outE, TL.outEF, TL.endE, TL.parE, TL.kpOk, List.range, List.range.loop, TL.gDict0, TL.gDPut, TL.fGetO, TL.odE, TL.keyD, TL.gApp2, TL.ooE, TL.gFrzO, TL.frzOE, TL.fLcO, TL.gOwnO, TL.fStar, TL.fCallK, TL.fCallFK, TL.permL, TL.eLc, TL.gAll, TL.gAllE, TL.fSlO, TL.fFrzL, TL.eFrzL, TL.fT, TL.truD, TL.isNN, TL.gExt, TL.asL, TL.gOoL, TL.allF, TL.fFrzO, TL.bFrzO, TL.gForApp, TL.fStp, TL.gPop, TL.divmodD, TL.fLrg, TL.eSlTo, TL.flatD, TL.bFrz, TL.gFrz, TL.fFrzL, TL.gRevO, TL.gClear, TL.gPopAt, TL.gIns, TL.ePop, TL.gAug, TL.gForE, TL.jSeq, TL.jRg1, TL.jRg2, TL.jEn, TL.iRg3, TL.iRvR, TL.vS, TL.fIxOd, TL.fGetO, TL.fDin, TL.fDinN, TL.odE, TL.gFrzD, TL.frzDE, TL.fKeys, TL.fVals, TL.fPairs, TL.f3, ]
  unfold M_depths_and_words
  generalize G_depths_and_words = GG at *
  simp [TL.gSeq, TL.gIf, TL.gSet, TL.gOwn, TL.gRet, TL.gRetF, TL.gRetO, TL.gNx, TL.gNo, TL.gBk, TL.gCt, TL.gAsg, TL.fVar, TL.fC, TL.f2, TL.f1, TL.fCons, TL.fNil, TL.fTup, TL.fLst, TL.fCall, TL.fCallF, TL.fTold, TL.fIf, TL.fAnd, TL.fOr, TL.fNot, TL.fMapD, TL.fB, TL.bOr, TL.bAnd, TL.bNot, TL.bYes, TL.fCh, TL.iSeq, TL.iRg1, TL.iRg2, TL.iEn, TL.iZp, TL.aNm, TL.aTup, TL.aCons, TL.aNil, TL.fSl, TL.pSome, TL.pNo, TL.asI, TL.asN, TL.asB, TL.ent, TL.mV, TL.mF, TL.outV, TL.outF, TL.tyNe, TL.tyEq, TL.tyN, TL.lenD, TL.addD_int, TL.subD_int, TL.ltD_int, TL.leD_int, TL.gtD_int, TL.geD_int, TL.negD_int, TL.eqD_int, TL.neD_int, Function.comp_apply, TL.pur, TL.e2, TL.eTold, TL.eLst, TL.eCons, TL.eNil, TL.eTup, TL.eCall, TL.eCallF, TL.eB, TL.eNot, TL.eOr, TL.eAnd, TL.eIf, TL.eFrz, TL.fFrz, TL.frzE, TL.mgE, TL.gPar, TL.vT, TL.vF, TL.vNil, TL.stE, TL.gSetE, TL.gOwnE, TL.gIfE, TL.gRetE, TL.gRetFE, TL.gAppE, TL.gPutE, TL.gPut, TL.gApp, TL.gAsgE, TL.gDropE, TL.ownE, TL.fIxO, TL.eCallG, TL.eCallGF, TL.agSlot, TL.agVal, TL.agTmp, TL.agNil, TL.okAgs, TL.okSlots, TL.toSV, TL.backE, TL.isOw, TL.apart, TL.mE, TL.mEF, TL.outE, TL.outEF, TL.endE, TL.parE, TL.kpOk, List.range, List.range.loop, hG]
theorem parse_plan {P : Pl} (w : WF P) : M_parse_plan [.str (plT P)] = some (P.map encR) := by
  have e1 := depths_and_words w
  have e2 := is_plan w
  have e3 := written_plan w
  have n1 := ne_str (plT P)
  have t1 : isT "str" (.str (plT P)) = true := rfl
  have ep : encP P = .list (P.map encR) := rfl
  rw [ep] at e2 e3
  generalize P.map encR = rows at *
  generalize plT P = tx at *
  have c1 : M_check_string [.str tx] = some .none := by simp [TL.gSeq, TL.gIf, TL.gSet, TL.gOwn, TL.gRet, TL.gRetF, TL.gRetO, TL.gNx, TL.gNo, TL.gBk, TL.gCt, TL.gAsg, TL.fVar, TL.fC, TL.f2, TL.f1, TL.fCons, TL.fNil, TL.fTup, TL.fLst, TL.fCall, TL.fCallF, TL.fTold, TL.fIf, TL.fAnd, TL.fOr, TL.fNot, TL.fMapD, TL.fB, TL.bOr, TL.bAnd, TL.bNot, TL.bYes, TL.fCh, TL.iSeq, TL.iRg1, TL.iRg2, TL.iEn, TL.iZp, TL.aNm, TL.aTup, TL.aCons, TL.aNil, TL.fSl, TL.pSome, TL.pNo, TL.asI, TL.asN, TL.asB, TL.ent, TL.mV, TL.mF, TL.outV, TL.outF, TL.tyNe, TL.tyEq, TL.tyN, TL.lenD, TL.addD_int, TL.subD_int, TL.ltD_int, TL.leD_int, TL.gtD_int, TL.geD_int, TL.negD_int, TL.eqD_int, TL.neD_int, Function.comp_apply, TL.pur, TL.e2, TL.eTold, TL.eLst, TL.eCons, TL.eNil, TL.eTup, TL.eCall, TL.eCallF, TL.eB, TL.eNot, TL.eOr, TL.eAnd, TL.eIf, TL.eFrz, TL.fFrz, TL.frzE, TL.mgE, TL.gPar, TL.vT, TL.vF, TL.vNil, TL.stE, TL.gSetE, TL.gOwnE, TL.gIfE, TL.gRetE, TL.gRetFE, TL.gAppE, TL.gPutE, TL.gPut, TL.gApp, TL.gAsgE, TL.gDropE, TL.ownE, TL.fIxO, TL.eCallG, TL.eCallGF, TL.agSlot, TL.agVal, TL.agTmp, TL.agNil, TL.okAgs, TL.okSlots, TL.toSV, TL.backE, TL.isOw, TL.apart, TL.mE, TL.mEF, TL.outE, TL.outEF, TL.endE, TL.parE, TL.kpOk, List.range, List.range.loop, TL.gDict0, TL.gDPut, TL.fGetO, TL.odE, TL.keyD, TL.gApp2, TL.ooE, TL.gFrzO, TL.frzOE, TL.fLcO, TL.gOwnO, TL.fStar, TL.fCallK, TL.fCallFK, TL.permL, TL.eLc, TL.gAll, TL.gAllE, TL.fSlO, TL.fFrzL, TL.eFrzL, TL.fT, TL.truD, TL.isNN, TL.gExt, TL.asL, TL.gOoL, TL.allF, TL.fFrzO, TL.bFrzO, TL.gForApp, TL.fStp, TL.gPop, TL.divmodD, TL.fLrg, TL.eSlTo, TL.flatD, TL.bFrz, TL.gFrz, TL.fFrzL, TL.gRevO, TL.gClear, TL.gPopAt, TL.gIns, TL.ePop, TL.gAug, TL.gForE, TL.jSeq, TL.jRg1, TL.jRg2, TL.jEn, TL.iRg3, TL.iRvR, TL.vS, TL.fIxOd, TL.fGetO, TL.fDin, TL.fDinN, TL.odE, TL.gFrzD, TL.frzDE, TL.fKeys, TL.fVals, TL.fPairs, TL.f3, M_check_string, G_check_string, t1]
  have hG : G_parse_plan [.sh (.str tx), .un] = some (.rf rows [.sh (.str tx), .ow rows]) := by
    unfold G_parse_plan
    refine (gSeq_nx (e' := [.sh (.str tx), .un]) (by simp [TL.gSeq, TL.gIf, TL.gSet, TL.gOwn, TL.gRet, TL.gRetF, TL.gRetO, TL.gNx, TL.gNo, TL.gBk, TL.gCt, TL.gAsg, TL.fVar, TL.fC, TL.f2, TL.f1, TL.fCons, TL.fNil, TL.fTup, TL.fLst, TL.fCall, TL.fCallF, TL.fTold, TL.fIf, TL.fAnd, TL.fOr, TL.fNot, TL.fMapD, TL.fB, TL.bOr, TL.bAnd, TL.bNot, TL.bYes, TL.fCh, TL.iSeq, TL.iRg1, TL.iRg2, TL.iEn, TL.iZp, TL.aNm, TL.aTup, TL.aCons, TL.aNil, TL.fSl, TL.pSome, TL.pNo, TL.asI, TL.asN, TL.asB, TL.ent, TL.mV, TL.mF, TL.outV, TL.outF, TL.tyNe, TL.tyEq, TL.tyN, TL.lenD, TL.addD_int, TL.subD_int, TL.ltD_int, TL.leD_int, TL.gtD_int, TL.geD_int, TL.negD_int, TL.eqD_int, TL.neD_int, Function.comp_apply, TL.pur, TL.e2, TL.eTold, TL.eLst, TL.eCons, TL.eNil, TL.eTup, TL.eCall, TL.eCallF, TL.eB, TL.eNot, TL.eOr, TL.eAnd, TL.eIf, TL.eFrz, TL.fFrz, TL.frzE, TL.mgE, TL.gPar, TL.vT, TL.vF, TL.vNil, TL.stE, TL.gSetE, TL.gOwnE, TL.gIfE, TL.gRetE, TL.gRetFE, TL.gAppE, TL.gPutE, TL.gPut, TL.gApp, TL.gAsgE, TL.gDropE, TL.ownE, TL.fIxO, TL.eCallG, TL.eCallGF, TL.agSlot, TL.agVal, TL.agTmp, TL.agNil, TL.okAgs, TL.okSlots, TL.toSV, TL.backE, TL.isOw, TL.apart, TL.mE, TL.mEF, TL.outE, TL.outEF, TL.endE, TL.parE, TL.kpOk, List.range, List.range.loop, TL.gDict0, TL.gDPut, TL.fGetO, TL.odE, TL.keyD, TL.gApp2, TL.ooE, TL.gFrzO, TL.frzOE, TL.fLcO, TL.gOwnO, TL.fStar, TL.fCallK, TL.fCallFK, TL.permL, TL.eLc, TL.gAll, TL.gAllE, TL.fSlO, TL.fFrzL, TL.eFrzL, TL.fT, TL.truD, TL.isNN, TL.gExt, TL.asL, TL.gOoL, TL.allF, TL.fFrzO, TL.bFrzO, TL.gForApp, TL.fStp, TL.gPop, TL.divmodD, TL.fLrg, TL.eSlTo, TL.flatD, TL.bFrz, TL.gFrz, TL.fFrzL, TL.gRevO, TL.gClear, TL.gPopAt, TL.gIns, TL.ePop, TL.gAug, TL.gForE, TL.jSeq, TL.jRg1, TL.jRg2, TL.jEn, TL.iRg3, TL.iRvR, TL.vS, TL.fIxOd, TL.fGetO, TL.fDin, TL.fDinN, TL.odE, TL.gFrzD, TL.frzDE, TL.fKeys, TL.fVals, TL.fPairs, TL.f3, c1])).trans ?_
    refine (gSeq_nx (e' := [.sh (.str tx), .ow rows]) (by simp [TL.gSeq, TL.gIf, TL.gSet, TL.gOwn, TL.gRet, TL.gRetF, TL.gRetO, TL.gNx, TL.gNo, TL.gBk, TL.gCt, TL.gAsg, TL.fVar, TL.fC, TL.f2, TL.f1, TL.fCons, TL.fNil, TL.fTup, TL.fLst, TL.fCall, TL.fCallF, TL.fTold, TL.fIf, TL.fAnd, TL.fOr, TL.fNot, TL.fMapD, TL.fB, TL.bOr, TL.bAnd, TL.bNot, TL.bYes, TL.fCh, TL.iSeq, TL.iRg1, TL.iRg2, TL.iEn, TL.iZp, TL.aNm, TL.aTup, TL.aCons, TL.aNil, TL.fSl, TL.pSome, TL.pNo, TL.asI, TL.asN, TL.asB, TL.ent, TL.mV, TL.mF, TL.outV, TL.outF, TL.tyNe, TL.tyEq, TL.tyN, TL.lenD, TL.addD_int, TL.subD_int, TL.ltD_int, TL.leD_int, TL.gtD_int, TL.geD_int, TL.negD_int, TL.eqD_int, TL.neD_int, Function.comp_apply, TL.pur, TL.e2, TL.eTold, TL.eLst, TL.eCons, TL.eNil, TL.eTup, TL.eCall, TL.eCallF, TL.eB, TL.eNot, TL.eOr, TL.eAnd, TL.eIf, TL.eFrz, TL.fFrz, TL.frzE, TL.mgE, TL.gPar, TL.vT, TL.vF, TL.vNil, TL.stE, TL.gSetE, TL.gOwnE, TL.gIfE, TL.gRetE, TL.gRetFE, TL.gAppE, TL.gPutE, TL.gPut, TL.gApp, TL.gAsgE, TL.gDropE, TL.ownE, TL.fIxO, TL.eCallG, TL.eCallGF, TL.agSlot, TL.agVal, TL.agTmp, TL.agNil, TL.okAgs, TL.okSlots, TL.toSV, TL.backE, TL.isOw, TL.apart, TL.mE, TL.mEF, TL.outE, TL.outEF, TL.endE, TL.parE, TL.kpOk, List.range, List.range.loop, TL.gDict0, TL.gDPut, TL.fGetO, TL.odE, TL.keyD, TL.gApp2, TL.ooE, TL.gFrzO, TL.frzOE, TL.fLcO, TL.gOwnO, TL.fStar, TL.fCallK, TL.fCallFK, TL.permL, TL.eLc, TL.gAll, TL.gAllE, TL.fSlO, TL.fFrzL, TL.eFrzL, TL.fT, TL.truD, TL.isNN, TL.gExt, TL.asL, TL.gOoL, TL.allF, TL.fFrzO, TL.bFrzO, TL.gForApp, TL.fStp, TL.gPop, TL.divmodD, TL.fLrg, TL.eSlTo, TL.flatD, TL.bFrz, TL.gFrz, TL.fFrzL, TL.gRevO, TL.gClear, TL.gPopAt, TL.gIns, TL.ePop, TL.gAug, TL.gForE, TL.jSeq, TL.jRg1, TL.jRg2, TL.jEn, TL.iRg3, TL.iRvR, TL.vS, TL.fIxOd, TL.fGetO, TL.fDin, TL.fDinN, TL.odE, TL.gFrzD, TL.frzDE, TL.fKeys, TL.fVals, TL.fPairs, TL.f3, e1])).trans ?_
    simp [TL.gSeq, TL.gIf, TL.gSet, TL.gOwn, TL.gRet, TL.gRetF, TL.gRetO, TL.gNx, TL.gNo, TL.gBk, TL.gCt, TL.gAsg, TL.fVar, TL.fC, TL.f2, TL.f1, TL.fCons, TL.fNil, TL.fTup, TL.fLst, TL.fCall, TL.fCallF, TL.fTold, TL.fIf, TL.fAnd, TL.fOr, TL.fNot, TL.fMapD, TL.fB, TL.bOr, TL.bAnd, TL.bNot, TL.bYes, TL.fCh, TL.iSeq, TL.iRg1, TL.iRg2, TL.iEn, TL.iZp, TL.aNm, TL.aTup, TL.aCons, TL.aNil, TL.fSl, TL.pSome, TL.pNo, TL.asI, TL.asN, TL.asB, TL.ent, TL.mV, TL.mF, TL.outV, TL.outF, TL.tyNe, TL.tyEq, TL.tyN, TL.lenD, TL.addD_int, TL.subD_int, TL.ltD_int, TL.leD_int, TL.gtD_int, TL.geD_int, TL.negD_int, TL.eqD_int, TL.neD_int, Function.comp_apply, TL.pur, TL.e2, TL.eTold, TL.eLst, TL.eCons, TL.eNil, TL.eTup, TL.eCall, TL.eCallF, TL.eB, TL.eNot, TL.eOr, TL.eAnd, TL.eIf, TL.eFrz, TL.fFrz, TL.frzE, TL.mgE, TL.gPar, TL.vT, TL.vF, TL.vNil, TL.stE, TL.gSetE, TL.gOwnE, TL.gIfE, TL.gRetE, TL.gRetFE, TL.gAppE, TL.gPutE, TL.gPut, TL.gApp, TL.gAsgE, TL.gDropE, TL.ownE, TL.fIxO, TL.eCallG, TL.eCallGF, TL.agSlot, TL.agVal, TL.agTmp, TL.agNil, TL.okAgs, TL.okSlots, TL.toSV, TL.backE, TL.isOw, TL.apart, TL.mE, TL.mEF, TL.outE, TL.outEF, TL.endE, TL.parE, TL.kpOk, List.range, List.range.loop, TL.gDict0, TL.gDPut, TL.fGetO, TL.odE, TL.keyD, TL.gApp2, TL.ooE, TL.gFrzO, TL.frzOE, TL.fLcO, TL.gOwnO, TL.fStar, TL.fCallK, TL.fCallFK, TL.permL, TL.eLc, TL.gAll, TL.gAllE, TL.fSlO, TL.fFrzL, TL.eFrzL, TL.fT, TL.truD, TL.isNN, TL.gExt, TL.asL, TL.gOoL, TL.allF, TL.fFrzO, TL.bFrzO, TL.gForApp, TL.fStp, TL.gPop, TL.divmodD, TL.fLrg, TL.eSlTo, TL.flatD, TL.bFrz, TL.gFrz, TL.fFrzL, TL.gRevO, TL.gClear, TL.gPopAt, TL.gIns, TL.ePop, TL.gAug, TL.gForE, TL.jSeq, TL.jRg1, TL.jRg2, TL.jEn, TL.iRg3, TL.iRvR, TL.vS, TL.fIxOd, TL.fGetO, TL.fDin, TL.fDinN, TL.odE, TL.gFrzD, TL.frzDE, TL.fKeys, TL.fVals, TL.fPairs, TL.f3, e2, e3, n1]
  unfold M_parse_plan
  generalize G_parse_plan = GG at *
  simp [TL.gSeq, TL.gIf, TL.gSet, TL.gOwn, TL.gRet, TL.gRetF, TL.gRetO, TL.gNx, TL.gNo, TL.gBk, TL.gCt, TL.gAsg, TL.fVar, TL.fC, TL.f2, TL.f1, TL.fCons, TL.fNil, TL.fTup, TL.fLst, TL.fCall, TL.fCallF, TL.fTold, TL.fIf, TL.fAnd, TL.fOr, TL.fNot, TL.fMapD, TL.fB, TL.bOr, TL.bAnd, TL.bNot, TL.bYes, TL.fCh, TL.iSeq, TL.iRg1, TL.iRg2, TL.iEn, TL.iZp, TL.aNm, TL.aTup, TL.aCons, TL.aNil, TL.fSl, TL.pSome, TL.pNo, TL.asI, TL.asN, TL.asB, TL.ent, TL.mV, TL.mF, TL.outV, TL.outF, TL.tyNe, TL.tyEq, TL.tyN, TL.lenD, TL.addD_int, TL.subD_int, TL.ltD_int, TL.leD_int, TL.gtD_int, TL.geD_int, TL.negD_int, TL.eqD_int, TL.neD_int, Function.comp_apply, TL.pur, TL.e2, TL.eTold, TL.eLst, TL.eCons, TL.eNil, TL.eTup, TL.eCall, TL.eCallF, TL.eB, TL.eNot, TL.eOr, TL.eAnd, TL.eIf, TL.eFrz, TL.fFrz, TL.frzE, TL.mgE, TL.gPar, TL.vT, TL.vF, TL.vNil, TL.stE, TL.gSetE, TL.gOwnE, TL.gIfE, TL.gRetE, TL.gRetFE, TL.gAppE, TL.gPutE, TL.gPut, TL.gApp, TL.gAsgE, TL.gDropE, TL.ownE, TL.fIxO, TL.eCallG, TL.eCallGF, TL.agSlot, TL.agVal, TL.agTmp, TL.agNil, TL.okAgs, TL.okSlots, TL.toSV, TL.backE, TL.isOw, TL.apart, TL.mE, TL.mEF, TL.outE, TL.outEF, TL.endE, TL.parE, TL.kpOk, List.range, List.range.loop, hG]
theorem format_plan {P : Pl} (w : WF P) : M_format_plan [encP P] = some (.str (plT P)) := by
  have e1 := check_plan w
  have e3 := written_plan w
  generalize encP P = pl at *
  simp [TL.gSeq, TL.gIf, TL.gSet, TL.gOwn, TL.gRet, TL.gRetF, TL.gRetO, TL.gNx, TL.gNo, TL.gBk, TL.gCt, TL.gAsg, TL.fVar, TL.fC, TL.f2, TL.f1, TL.fCons, TL.fNil, TL.fTup, TL.fLst, TL.fCall, TL.fCallF, TL.fTold, TL.fIf, TL.fAnd, TL.fOr, TL.fNot, TL.fMapD, TL.fB, TL.bOr, TL.bAnd, TL.bNot, TL.bYes, TL.fCh, TL.iSeq, TL.iRg1, TL.iRg2, TL.iEn, TL.iZp, TL.aNm, TL.aTup, TL.aCons, TL.aNil, TL.fSl, TL.pSome, TL.pNo, TL.asI, TL.asN, TL.asB, TL.ent, TL.mV, TL.mF, TL.outV, TL.outF, TL.tyNe, TL.tyEq, TL.tyN, TL.lenD, TL.addD_int, TL.subD_int, TL.ltD_int, TL.leD_int, TL.gtD_int, TL.geD_int, TL.negD_int, TL.eqD_int, TL.neD_int, Function.comp_apply, TL.pur, TL.e2, TL.eTold, TL.eLst, TL.eCons, TL.eNil, TL.eTup, TL.eCall, TL.eCallF, TL.eB, TL.eNot, TL.eOr, TL.eAnd, TL.eIf, TL.eFrz, TL.fFrz, TL.frzE, TL.mgE, TL.gPar, TL.vT, TL.vF, TL.vNil, TL.stE, TL.gSetE, TL.gOwnE, TL.gIfE, TL.gRetE, TL.gRetFE, TL.gAppE, TL.gPutE, TL.gPut, TL.gApp, TL.gAsgE, TL.gDropE, TL.ownE, TL.fIxO, TL.eCallG, TL.eCallGF, TL.agSlot, TL.agVal, TL.agTmp, TL.agNil, TL.okAgs, TL.okSlots, TL.toSV, TL.backE, TL.isOw, TL.apart, TL.mE, TL.mEF, TL.outE, TL.outEF, TL.endE, TL.parE, TL.kpOk, List.range, List.range.loop, TL.gDict0, TL.gDPut, TL.fGetO, TL.odE, TL.keyD, TL.gApp2, TL.ooE, TL.gFrzO, TL.frzOE, TL.fLcO, TL.gOwnO, TL.fStar, TL.fCallK, TL.fCallFK, TL.permL, TL.eLc, TL.gAll, TL.gAllE, TL.fSlO, TL.fFrzL, TL.eFrzL, TL.fT, TL.truD, TL.isNN, TL.gExt, TL.asL, TL.gOoL, TL.allF, TL.fFrzO, TL.bFrzO, TL.gForApp, TL.fStp, TL.gPop, TL.divmodD, TL.fLrg, TL.eSlTo, TL.flatD, TL.bFrz, TL.gFrz, TL.fFrzL, TL.gRevO, TL.gClear, TL.gPopAt, TL.gIns, TL.ePop, TL.gAug, TL.gForE, TL.jSeq, TL.jRg1, TL.jRg2, TL.jEn, TL.iRg3, TL.iRvR, TL.vS, TL.fIxOd, TL.fGetO, TL.fDin, TL.fDinN, TL.odE, TL.gFrzD, TL.frzDE, TL.fKeys, TL.fVals, TL.fPairs, TL.f3, M_format_plan, G_format_plan, e1, e3]
theorem is_section {P : Pl} {s : Nat} (hs : s < P.length) : M_is_section [encP P, .int (s : Int)] = some (.bool true) := by
  have e0 := whole (.int (s : Int))
  simp only at e0
  have lp : (P.map encR).length = P.length := by simp
  have ep : encP P = .list (P.map encR) := rfl
  rw [ep]
  generalize P.map encR = pl at *
  have h1 : leD (.int 0) (.int (s : Int)) = some (.bool true) := by rw [leD_int, decide_eq_true (by omega)]
  have h2 : ltD (.int (s : Int)) (.int (P.length : Int)) = some (.bool true) := by rw [ltD_int, decide_eq_true (by omega)]
  generalize (s : Int) = ss at *
  simp [TL.gSeq, TL.gIf, TL.gSet, TL.gOwn, TL.gRet, TL.gRetF, TL.gRetO, TL.gNx, TL.gNo, TL.gBk, TL.gCt, TL.gAsg, TL.fVar, TL.fC, TL.f2, TL.f1, TL.fCons, TL.fNil, TL.fTup, TL.fLst, TL.fCall, TL.fCallF, TL.fTold, TL.fIf, TL.fAnd, TL.fOr, TL.fNot, TL.fMapD, TL.fB, TL.bOr, TL.bAnd, TL.bNot, TL.bYes, TL.fCh, TL.iSeq, TL.iRg1, TL.iRg2, TL.iEn, TL.iZp, TL.aNm, TL.aTup, TL.aCons, TL.aNil, TL.fSl, TL.pSome, TL.pNo, TL.asI, TL.asN, TL.asB, TL.ent, TL.mV, TL.mF, TL.outV, TL.outF, TL.tyNe, TL.tyEq, TL.tyN, TL.lenD, TL.addD_int, TL.subD_int, TL.ltD_int, TL.leD_int, TL.gtD_int, TL.geD_int, TL.negD_int, TL.eqD_int, TL.neD_int, Function.comp_apply, TL.pur, TL.e2, TL.eTold, TL.eLst, TL.eCons, TL.eNil, TL.eTup, TL.eCall, TL.eCallF, TL.eB, TL.eNot, TL.eOr, TL.eAnd, TL.eIf, TL.eFrz, TL.fFrz, TL.frzE, TL.mgE, TL.gPar, TL.vT, TL.vF, TL.vNil, TL.stE, TL.gSetE, TL.gOwnE, TL.gIfE, TL.gRetE, TL.gRetFE, TL.gAppE, TL.gPutE, TL.gPut, TL.gApp, TL.gAsgE, TL.gDropE, TL.ownE, TL.fIxO, TL.eCallG, TL.eCallGF, TL.agSlot, TL.agVal, TL.agTmp, TL.agNil, TL.okAgs, TL.okSlots, TL.toSV, TL.backE, TL.isOw, TL.apart, TL.mE, TL.mEF, TL.outE, TL.outEF, TL.endE, TL.parE, TL.kpOk, List.range, List.range.loop, TL.gDict0, TL.gDPut, TL.fGetO, TL.odE, TL.keyD, TL.gApp2, TL.ooE, TL.gFrzO, TL.frzOE, TL.fLcO, TL.gOwnO, TL.fStar, TL.fCallK, TL.fCallFK, TL.permL, TL.eLc, TL.gAll, TL.gAllE, TL.fSlO, TL.fFrzL, TL.eFrzL, TL.fT, TL.truD, TL.isNN, TL.gExt, TL.asL, TL.gOoL, TL.allF, TL.fFrzO, TL.bFrzO, TL.gForApp, TL.fStp, TL.gPop, TL.divmodD, TL.fLrg, TL.eSlTo, TL.flatD, TL.bFrz, TL.gFrz, TL.fFrzL, TL.gRevO, TL.gClear, TL.gPopAt, TL.gIns, TL.ePop, TL.gAug, TL.gForE, TL.jSeq, TL.jRg1, TL.jRg2, TL.jEn, TL.iRg3, TL.iRvR, TL.vS, TL.fIxOd, TL.fGetO, TL.fDin, TL.fDinN, TL.odE, TL.gFrzD, TL.frzDE, TL.fKeys, TL.fVals, TL.fPairs, TL.f3, M_is_section, G_is_section, e0, lp, h1, h2]
theorem check_section {P : Pl} {s : Nat} (hs : s < P.length) : M_check_section [encP P, .int (s : Int)] = some .none := by
  have h := is_section hs
  generalize encP P = pl at *
  simp [TL.gSeq, TL.gIf, TL.gSet, TL.gOwn, TL.gRet, TL.gRetF, TL.gRetO, TL.gNx, TL.gNo, TL.gBk, TL.gCt, TL.gAsg, TL.fVar, TL.fC, TL.f2, TL.f1, TL.fCons, TL.fNil, TL.fTup, TL.fLst, TL.fCall, TL.fCallF, TL.fTold, TL.fIf, TL.fAnd, TL.fOr, TL.fNot, TL.fMapD, TL.fB, TL.bOr, TL.bAnd, TL.bNot, TL.bYes, TL.fCh, TL.iSeq, TL.iRg1, TL.iRg2, TL.iEn, TL.iZp, TL.aNm, TL.aTup, TL.aCons, TL.aNil, TL.fSl, TL.pSome, TL.pNo, TL.asI, TL.asN, TL.asB, TL.ent, TL.mV, TL.mF, TL.outV, TL.outF, TL.tyNe, TL.tyEq, TL.tyN, TL.lenD, TL.addD_int, TL.subD_int, TL.ltD_int, TL.leD_int, TL.gtD_int, TL.geD_int, TL.negD_int, TL.eqD_int, TL.neD_int, Function.comp_apply, TL.pur, TL.e2, TL.eTold, TL.eLst, TL.eCons, TL.eNil, TL.eTup, TL.eCall, TL.eCallF, TL.eB, TL.eNot, TL.eOr, TL.eAnd, TL.eIf, TL.eFrz, TL.fFrz, TL.frzE, TL.mgE, TL.gPar, TL.vT, TL.vF, TL.vNil, TL.stE, TL.gSetE, TL.gOwnE, TL.gIfE, TL.gRetE, TL.gRetFE, TL.gAppE, TL.gPutE, TL.gPut, TL.gApp, TL.gAsgE, TL.gDropE, TL.ownE, TL.fIxO, TL.eCallG, TL.eCallGF, TL.agSlot, TL.agVal, TL.agTmp, TL.agNil, TL.okAgs, TL.okSlots, TL.toSV, TL.backE, TL.isOw, TL.apart, TL.mE, TL.mEF, TL.outE, TL.outEF, TL.endE, TL.parE, TL.kpOk, List.range, List.range.loop, TL.gDict0, TL.gDPut, TL.fGetO, TL.odE, TL.keyD, TL.gApp2, TL.ooE, TL.gFrzO, TL.frzOE, TL.fLcO, TL.gOwnO, TL.fStar, TL.fCallK, TL.fCallFK, TL.permL, TL.eLc, TL.gAll, TL.gAllE, TL.fSlO, TL.fFrzL, TL.eFrzL, TL.fT, TL.truD, TL.isNN, TL.gExt, TL.asL, TL.gOoL, TL.allF, TL.fFrzO, TL.bFrzO, TL.gForApp, TL.fStp, TL.gPop, TL.divmodD, TL.fLrg, TL.eSlTo, TL.flatD, TL.bFrz, TL.gFrz, TL.fFrzL, TL.gRevO, TL.gClear, TL.gPopAt, TL.gIns, TL.ePop, TL.gAug, TL.gForE, TL.jSeq, TL.jRg1, TL.jRg2, TL.jEn, TL.iRg3, TL.iRvR, TL.vS, TL.fIxOd, TL.fGetO, TL.fDin, TL.fDinN, TL.odE, TL.gFrzD, TL.frzDE, TL.fKeys, TL.fVals, TL.fPairs, TL.f3, M_check_section, G_check_section, h]
theorem check_below {P : Pl} {s : Nat} (h0 : 0 < s) (hs : s < P.length) : M_check_below_page [encP P, .int (s : Int)] = some .none := by
  have h := check_section hs
  have e : eqD (.int (s : Int)) (.int 0) = some (.bool false) := by rw [eqD_int, decide_eq_false (by omega)]
  generalize encP P = pl at *
  generalize (s : Int) = ss at *
  simp [TL.gSeq, TL.gIf, TL.gSet, TL.gOwn, TL.gRet, TL.gRetF, TL.gRetO, TL.gNx, TL.gNo, TL.gBk, TL.gCt, TL.gAsg, TL.fVar, TL.fC, TL.f2, TL.f1, TL.fCons, TL.fNil, TL.fTup, TL.fLst, TL.fCall, TL.fCallF, TL.fTold, TL.fIf, TL.fAnd, TL.fOr, TL.fNot, TL.fMapD, TL.fB, TL.bOr, TL.bAnd, TL.bNot, TL.bYes, TL.fCh, TL.iSeq, TL.iRg1, TL.iRg2, TL.iEn, TL.iZp, TL.aNm, TL.aTup, TL.aCons, TL.aNil, TL.fSl, TL.pSome, TL.pNo, TL.asI, TL.asN, TL.asB, TL.ent, TL.mV, TL.mF, TL.outV, TL.outF, TL.tyNe, TL.tyEq, TL.tyN, TL.lenD, TL.addD_int, TL.subD_int, TL.ltD_int, TL.leD_int, TL.gtD_int, TL.geD_int, TL.negD_int, TL.eqD_int, TL.neD_int, Function.comp_apply, TL.pur, TL.e2, TL.eTold, TL.eLst, TL.eCons, TL.eNil, TL.eTup, TL.eCall, TL.eCallF, TL.eB, TL.eNot, TL.eOr, TL.eAnd, TL.eIf, TL.eFrz, TL.fFrz, TL.frzE, TL.mgE, TL.gPar, TL.vT, TL.vF, TL.vNil, TL.stE, TL.gSetE, TL.gOwnE, TL.gIfE, TL.gRetE, TL.gRetFE, TL.gAppE, TL.gPutE, TL.gPut, TL.gApp, TL.gAsgE, TL.gDropE, TL.ownE, TL.fIxO, TL.eCallG, TL.eCallGF, TL.agSlot, TL.agVal, TL.agTmp, TL.agNil, TL.okAgs, TL.okSlots, TL.toSV, TL.backE, TL.isOw, TL.apart, TL.mE, TL.mEF, TL.outE, TL.outEF, TL.endE, TL.parE, TL.kpOk, List.range, List.range.loop, TL.gDict0, TL.gDPut, TL.fGetO, TL.odE, TL.keyD, TL.gApp2, TL.ooE, TL.gFrzO, TL.frzOE, TL.fLcO, TL.gOwnO, TL.fStar, TL.fCallK, TL.fCallFK, TL.permL, TL.eLc, TL.gAll, TL.gAllE, TL.fSlO, TL.fFrzL, TL.eFrzL, TL.fT, TL.truD, TL.isNN, TL.gExt, TL.asL, TL.gOoL, TL.allF, TL.fFrzO, TL.bFrzO, TL.gForApp, TL.fStp, TL.gPop, TL.divmodD, TL.fLrg, TL.eSlTo, TL.flatD, TL.bFrz, TL.gFrz, TL.fFrzL, TL.gRevO, TL.gClear, TL.gPopAt, TL.gIns, TL.ePop, TL.gAug, TL.gForE, TL.jSeq, TL.jRg1, TL.jRg2, TL.jEn, TL.iRg3, TL.iRvR, TL.vS, TL.fIxOd, TL.fGetO, TL.fDin, TL.fDinN, TL.odE, TL.gFrzD, TL.frzDE, TL.fKeys, TL.fVals, TL.fPairs, TL.f3, M_check_below_page, G_check_below_page, h, e]
theorem group_of {P : Pl} (w : WF P) {s : Nat} (hs : s < P.length) : M_group_of [encP P, .int (s : Int)] = some (.list (encN (grp P s))) := by
  have h1 := check_plan w
  have h2 := check_section hs
  have h3 := all_groups w
  have h4 := grps_ix (P := P) hs
  generalize (grps P).map (fun g => PyData.list (encN g)) = gg at *
  generalize encP P = pl at *
  generalize (s : Int) = ss at *
  generalize encN (grp P s) = gs at *
  simp [TL.gSeq, TL.gIf, TL.gSet, TL.gOwn, TL.gRet, TL.gRetF, TL.gRetO, TL.gNx, TL.gNo, TL.gBk, TL.gCt, TL.gAsg, TL.fVar, TL.fC, TL.f2, TL.f1, TL.fCons, TL.fNil, TL.fTup, TL.fLst, TL.fCall, TL.fCallF, TL.fTold, TL.fIf, TL.fAnd, TL.fOr, TL.fNot, TL.fMapD, TL.fB, TL.bOr, TL.bAnd, TL.bNot, TL.bYes, TL.fCh, TL.iSeq, TL.iRg1, TL.iRg2, TL.iEn, TL.iZp, TL.aNm, TL.aTup, TL.aCons, TL.aNil, TL.fSl, TL.pSome, TL.pNo, TL.asI, TL.asN, TL.asB, TL.ent, TL.mV, TL.mF, TL.outV, TL.outF, TL.tyNe, TL.tyEq, TL.tyN, TL.lenD, TL.addD_int, TL.subD_int, TL.ltD_int, TL.leD_int, TL.gtD_int, TL.geD_int, TL.negD_int, TL.eqD_int, TL.neD_int, Function.comp_apply, TL.pur, TL.e2, TL.eTold, TL.eLst, TL.eCons, TL.eNil, TL.eTup, TL.eCall, TL.eCallF, TL.eB, TL.eNot, TL.eOr, TL.eAnd, TL.eIf, TL.eFrz, TL.fFrz, TL.frzE, TL.mgE, TL.gPar, TL.vT, TL.vF, TL.vNil, TL.stE, TL.gSetE, TL.gOwnE, TL.gIfE, TL.gRetE, TL.gRetFE, TL.gAppE, TL.gPutE, TL.gPut, TL.gApp, TL.gAsgE, TL.gDropE, TL.ownE, TL.fIxO, TL.eCallG, TL.eCallGF, TL.agSlot, TL.agVal, TL.agTmp, TL.agNil, TL.okAgs, TL.okSlots, TL.toSV, TL.backE, TL.isOw, TL.apart, TL.mE, TL.mEF, TL.outE, TL.outEF, TL.endE, TL.parE, TL.kpOk, List.range, List.range.loop, TL.gDict0, TL.gDPut, TL.fGetO, TL.odE, TL.keyD, TL.gApp2, TL.ooE, TL.gFrzO, TL.frzOE, TL.fLcO, TL.gOwnO, TL.fStar, TL.fCallK, TL.fCallFK, TL.permL, TL.eLc, TL.gAll, TL.gAllE, TL.fSlO, TL.fFrzL, TL.eFrzL, TL.fT, TL.truD, TL.isNN, TL.gExt, TL.asL, TL.gOoL, TL.allF, TL.fFrzO, TL.bFrzO, TL.gForApp, TL.fStp, TL.gPop, TL.divmodD, TL.fLrg, TL.eSlTo, TL.flatD, TL.bFrz, TL.gFrz, TL.fFrzL, TL.gRevO, TL.gClear, TL.gPopAt, TL.gIns, TL.ePop, TL.gAug, TL.gForE, TL.jSeq, TL.jRg1, TL.jRg2, TL.jEn, TL.iRg3, TL.iRvR, TL.vS, TL.fIxOd, TL.fGetO, TL.fDin, TL.fDinN, TL.odE, TL.gFrzD, TL.frzDE, TL.fKeys, TL.fVals, TL.fPairs, TL.f3, M_group_of, G_group_of, h1, h2, h3, h4]
theorem end_while {P : Pl} {s e : Nat} (he : EndOf P s e) (hl : P.length ≤ 40) : ∀ (k q m : Nat), s < q → q ≤ e → e - q ≤ k → k < m →
    whG (bAnd (fB (f2 ltD (fVar 2) (fCall lenD (fCons (fVar 0) fNil)))) (fB (f2 gtD (f2 ixD (f2 ixD (fVar 0) (fVar 2)) (fC (.int 0))) (f2 ixD (f2 ixD (fVar 0) (fVar 1)) (fC (.int 0)))))) B_end_of_1 m [.sh (encP P), .sh (.int (s : Int)), .sh (.int (q : Int))] = some (.nx [.sh (encP P), .sh (.int (s : Int)), .sh (.int (e : Int))])
  | k, q, 0, _, _, _, h => by omega
  | k, q, m + 1, h1, h2, h3, h4 => by
    have l1 := he.lt
    have l2 := he.le
    have hs : s < P.length := by omega
    have lp : (P.map encR).length = P.length := by simp
    have a1 := row_of hs
    have a2 := row0 (.int (dep P s : Nat)) (.str (knd P s).nm)
    have ep : encP P = .list (P.map encR) := rfl
    by_cases c : q < e
    · obtain ⟨j, rfl⟩ : ∃ j, k = j + 1 := ⟨k - 1, by omega⟩
      have ih := end_while he hl j (q + 1) m (by omega) (by omega) (by omega) (by omega)
      have hd := he.mid q h1 c
      have b1 := row_of (P := P) (i := q) (by omega)
      have b2 := row0 (.int (dep P q : Nat)) (.str (knd P q).nm)
      have c1 : (q : Int) < (P.length : Int) := by omega
      have c2 : ((dep P s : Nat) : Int) < ((dep P q : Nat) : Int) := by omega
      have eq1 : ((q + 1 : Nat) : Int) = (q : Int) + 1 := by omega
      rw [eq1] at ih
      rw [ep] at a1 b1 ih ⊢
      generalize P.map encR = pl at *
      generalize (knd P q).nm = nq at *
      generalize (knd P s).nm = nn at *
      generalize ((dep P q : Nat) : Int) = dq at *
      generalize ((dep P s : Nat) : Int) = ds at *
      generalize hq : (q : Int) = qq at *
      generalize (s : Int) = ss at *
      have hC : (bAnd (fB (f2 ltD (fVar 2) (fCall lenD (fCons (fVar 0) fNil)))) (fB (f2 gtD (f2 ixD (f2 ixD (fVar 0) (fVar 2)) (fC (.int 0))) (f2 ixD (f2 ixD (fVar 0) (fVar 1)) (fC (.int 0)))))) [.sh (.list pl), .sh (.int ss), .sh (.int qq)] = some true := by
        simp [TL.gSeq, TL.gIf, TL.gSet, TL.gOwn, TL.gRet, TL.gRetF, TL.gRetO, TL.gNx, TL.gNo, TL.gBk, TL.gCt, TL.gAsg, TL.fVar, TL.fC, TL.f2, TL.f1, TL.fCons, TL.fNil, TL.fTup, TL.fLst, TL.fCall, TL.fCallF, TL.fTold, TL.fIf, TL.fAnd, TL.fOr, TL.fNot, TL.fMapD, TL.fB, TL.bOr, TL.bAnd, TL.bNot, TL.bYes, TL.fCh, TL.iSeq, TL.iRg1, TL.iRg2, TL.iEn, TL.iZp, TL.aNm, TL.aTup, TL.aCons, TL.aNil, TL.fSl, TL.pSome, TL.pNo, TL.asI, TL.asN, TL.asB, TL.ent, TL.mV, TL.mF, TL.outV, TL.outF, TL.tyNe, TL.tyEq, TL.tyN, TL.lenD, TL.addD_int, TL.subD_int, TL.ltD_int, TL.leD_int, TL.gtD_int, TL.geD_int, TL.negD_int, TL.eqD_int, TL.neD_int, Function.comp_apply, TL.pur, TL.e2, TL.eTold, TL.eLst, TL.eCons, TL.eNil, TL.eTup, TL.eCall, TL.eCallF, TL.eB, TL.eNot, TL.eOr, TL.eAnd, TL.eIf, TL.eFrz, TL.fFrz, TL.frzE, TL.mgE, TL.gPar, TL.vT, TL.vF, TL.vNil, TL.stE, TL.gSetE, TL.gOwnE, TL.gIfE, TL.gRetE, TL.gRetFE, TL.gAppE, TL.gPutE, TL.gPut, TL.gApp, TL.gAsgE, TL.gDropE, TL.ownE, TL.fIxO, TL.eCallG, TL.eCallGF, TL.agSlot, TL.agVal, TL.agTmp, TL.agNil, TL.okAgs, TL.okSlots, TL.toSV, TL.backE, TL.isOw, TL.apart, TL.mE, TL.mEF, TL.outE, TL.outEF, TL.endE, TL.parE, TL.kpOk, List.range, List.range.loop, TL.gDict0, TL.gDPut, TL.fGetO, TL.odE, TL.keyD, TL.gApp2, TL.ooE, TL.gFrzO, TL.frzOE, TL.fLcO, TL.gOwnO, TL.fStar, TL.fCallK, TL.fCallFK, TL.permL, TL.eLc, TL.gAll, TL.gAllE, TL.fSlO, TL.fFrzL, TL.eFrzL, TL.fT, TL.truD, TL.isNN, TL.gExt, TL.asL, TL.gOoL, TL.allF, TL.fFrzO, TL.bFrzO, TL.gForApp, TL.fStp, TL.gPop, TL.divmodD, TL.fLrg, TL.eSlTo, TL.flatD, TL.bFrz, TL.gFrz, TL.fFrzL, TL.gRevO, TL.gClear, TL.gPopAt, TL.gIns, TL.ePop, TL.gAug, TL.gForE, TL.jSeq, TL.jRg1, TL.jRg2, TL.jEn, TL.iRg3, TL.iRvR, TL.vS, TL.fIxOd, TL.fGetO, TL.fDin, TL.fDinN, TL.odE, TL.gFrzD, TL.frzDE, TL.fKeys, TL.fVals, TL.fPairs, TL.f3, lp, c1, c2, a1, a2, b1, b2]
      have hB : B_end_of_1 [.sh (.list pl), .sh (.int ss), .sh (.int qq)] = some (.nx [.sh (.list pl), .sh (.int ss), .sh (.int (qq + 1))]) := by
        simp [TL.gSeq, TL.gIf, TL.gSet, TL.gOwn, TL.gRet, TL.gRetF, TL.gRetO, TL.gNx, TL.gNo, TL.gBk, TL.gCt, TL.gAsg, TL.fVar, TL.fC, TL.f2, TL.f1, TL.fCons, TL.fNil, TL.fTup, TL.fLst, TL.fCall, TL.fCallF, TL.fTold, TL.fIf, TL.fAnd, TL.fOr, TL.fNot, TL.fMapD, TL.fB, TL.bOr, TL.bAnd, TL.bNot, TL.bYes, TL.fCh, TL.iSeq, TL.iRg1, TL.iRg2, TL.iEn, TL.iZp, TL.aNm, TL.aTup, TL.aCons, TL.aNil, TL.fSl, TL.pSome, TL.pNo, TL.asI, TL.asN, TL.asB, TL.ent, TL.mV, TL.mF, TL.outV, TL.outF, TL.tyNe, TL.tyEq, TL.tyN, TL.lenD, TL.addD_int, TL.subD_int, TL.ltD_int, TL.leD_int, TL.gtD_int, TL.geD_int, TL.negD_int, TL.eqD_int, TL.neD_int, Function.comp_apply, TL.pur, TL.e2, TL.eTold, TL.eLst, TL.eCons, TL.eNil, TL.eTup, TL.eCall, TL.eCallF, TL.eB, TL.eNot, TL.eOr, TL.eAnd, TL.eIf, TL.eFrz, TL.fFrz, TL.frzE, TL.mgE, TL.gPar, TL.vT, TL.vF, TL.vNil, TL.stE, TL.gSetE, TL.gOwnE, TL.gIfE, TL.gRetE, TL.gRetFE, TL.gAppE, TL.gPutE, TL.gPut, TL.gApp, TL.gAsgE, TL.gDropE, TL.ownE, TL.fIxO, TL.eCallG, TL.eCallGF, TL.agSlot, TL.agVal, TL.agTmp, TL.agNil, TL.okAgs, TL.okSlots, TL.toSV, TL.backE, TL.isOw, TL.apart, TL.mE, TL.mEF, TL.outE, TL.outEF, TL.endE, TL.parE, TL.kpOk, List.range, List.range.loop, TL.gDict0, TL.gDPut, TL.fGetO, TL.odE, TL.keyD, TL.gApp2, TL.ooE, TL.gFrzO, TL.frzOE, TL.fLcO, TL.gOwnO, TL.fStar, TL.fCallK, TL.fCallFK, TL.permL, TL.eLc, TL.gAll, TL.gAllE, TL.fSlO, TL.fFrzL, TL.eFrzL, TL.fT, TL.truD, TL.isNN, TL.gExt, TL.asL, TL.gOoL, TL.allF, TL.fFrzO, TL.bFrzO, TL.gForApp, TL.fStp, TL.gPop, TL.divmodD, TL.fLrg, TL.eSlTo, TL.flatD, TL.bFrz, TL.gFrz, TL.fFrzL, TL.gRevO, TL.gClear, TL.gPopAt, TL.gIns, TL.ePop, TL.gAug, TL.gForE, TL.jSeq, TL.jRg1, TL.jRg2, TL.jEn, TL.iRg3, TL.iRvR, TL.vS, TL.fIxOd, TL.fGetO, TL.fDin, TL.fDinN, TL.odE, TL.gFrzD, TL.frzDE, TL.fKeys, TL.fVals, TL.fPairs, TL.f3, B_end_of_1, gAug]
      simp only [whG, hC, hB, Option.bind_some, if_true]
      exact ih
    · have hq : q = e := by omega
      subst hq
      have hC : (bAnd (fB (f2 ltD (fVar 2) (fCall lenD (fCons (fVar 0) fNil)))) (fB (f2 gtD (f2 ixD (f2 ixD (fVar 0) (fVar 2)) (fC (.int 0))) (f2 ixD (f2 ixD (fVar 0) (fVar 1)) (fC (.int 0)))))) [.sh (encP P), .sh (.int (s : Int)), .sh (.int (q : Int))] = some false := by
        by_cases d : q < P.length
        · have hd := he.up
          have b1 := row_of (P := P) (i := q) d
          have b2 := row0 (.int (dep P q : Nat)) (.str (knd P q).nm)
          have c1 : (q : Int) < (P.length : Int) := by omega
          have c2 : ¬ ((dep P s : Nat) : Int) < ((dep P q : Nat) : Int) := by omega
          rw [ep] at a1 b1 ⊢
          generalize P.map encR = pl at *
          generalize (knd P q).nm = nq at *
          generalize (knd P s).nm = nn at *
          generalize ((dep P q : Nat) : Int) = dq at *
          generalize ((dep P s : Nat) : Int) = ds at *
          generalize (q : Int) = qq at *
          generalize (s : Int) = ss at *
          simp [TL.gSeq, TL.gIf, TL.gSet, TL.gOwn, TL.gRet, TL.gRetF, TL.gRetO, TL.gNx, TL.gNo, TL.gBk, TL.gCt, TL.gAsg, TL.fVar, TL.fC, TL.f2, TL.f1, TL.fCons, TL.fNil, TL.fTup, TL.fLst, TL.fCall, TL.fCallF, TL.fTold, TL.fIf, TL.fAnd, TL.fOr, TL.fNot, TL.fMapD, TL.fB, TL.bOr, TL.bAnd, TL.bNot, TL.bYes, TL.fCh, TL.iSeq, TL.iRg1, TL.iRg2, TL.iEn, TL.iZp, TL.aNm, TL.aTup, TL.aCons, TL.aNil, TL.fSl, TL.pSome, TL.pNo, TL.asI, TL.asN, TL.asB, TL.ent, TL.mV, TL.mF, TL.outV, TL.outF, TL.tyNe, TL.tyEq, TL.tyN, TL.lenD, TL.addD_int, TL.subD_int, TL.ltD_int, TL.leD_int, TL.gtD_int, TL.geD_int, TL.negD_int, TL.eqD_int, TL.neD_int, Function.comp_apply, TL.pur, TL.e2, TL.eTold, TL.eLst, TL.eCons, TL.eNil, TL.eTup, TL.eCall, TL.eCallF, TL.eB, TL.eNot, TL.eOr, TL.eAnd, TL.eIf, TL.eFrz, TL.fFrz, TL.frzE, TL.mgE, TL.gPar, TL.vT, TL.vF, TL.vNil, TL.stE, TL.gSetE, TL.gOwnE, TL.gIfE, TL.gRetE, TL.gRetFE, TL.gAppE, TL.gPutE, TL.gPut, TL.gApp, TL.gAsgE, TL.gDropE, TL.ownE, TL.fIxO, TL.eCallG, TL.eCallGF, TL.agSlot, TL.agVal, TL.agTmp, TL.agNil, TL.okAgs, TL.okSlots, TL.toSV, TL.backE, TL.isOw, TL.apart, TL.mE, TL.mEF, TL.outE, TL.outEF, TL.endE, TL.parE, TL.kpOk, List.range, List.range.loop, TL.gDict0, TL.gDPut, TL.fGetO, TL.odE, TL.keyD, TL.gApp2, TL.ooE, TL.gFrzO, TL.frzOE, TL.fLcO, TL.gOwnO, TL.fStar, TL.fCallK, TL.fCallFK, TL.permL, TL.eLc, TL.gAll, TL.gAllE, TL.fSlO, TL.fFrzL, TL.eFrzL, TL.fT, TL.truD, TL.isNN, TL.gExt, TL.asL, TL.gOoL, TL.allF, TL.fFrzO, TL.bFrzO, TL.gForApp, TL.fStp, TL.gPop, TL.divmodD, TL.fLrg, TL.eSlTo, TL.flatD, TL.bFrz, TL.gFrz, TL.fFrzL, TL.gRevO, TL.gClear, TL.gPopAt, TL.gIns, TL.ePop, TL.gAug, TL.gForE, TL.jSeq, TL.jRg1, TL.jRg2, TL.jEn, TL.iRg3, TL.iRvR, TL.vS, TL.fIxOd, TL.fGetO, TL.fDin, TL.fDinN, TL.odE, TL.gFrzD, TL.frzDE, TL.fKeys, TL.fVals, TL.fPairs, TL.f3, lp, c1, c2, a1, a2, b1, b2]
        · have c1 : ¬ (q : Int) < (P.length : Int) := by omega
          rw [ep]
          generalize P.map encR = pl at *
          generalize (q : Int) = qq at *
          generalize (s : Int) = ss at *
          simp [TL.gSeq, TL.gIf, TL.gSet, TL.gOwn, TL.gRet, TL.gRetF, TL.gRetO, TL.gNx, TL.gNo, TL.gBk, TL.gCt, TL.gAsg, TL.fVar, TL.fC, TL.f2, TL.f1, TL.fCons, TL.fNil, TL.fTup, TL.fLst, TL.fCall, TL.fCallF, TL.fTold, TL.fIf, TL.fAnd, TL.fOr, TL.fNot, TL.fMapD, TL.fB, TL.bOr, TL.bAnd, TL.bNot, TL.bYes, TL.fCh, TL.iSeq, TL.iRg1, TL.iRg2, TL.iEn, TL.iZp, TL.aNm, TL.aTup, TL.aCons, TL.aNil, TL.fSl, TL.pSome, TL.pNo, TL.asI, TL.asN, TL.asB, TL.ent, TL.mV, TL.mF, TL.outV, TL.outF, TL.tyNe, TL.tyEq, TL.tyN, TL.lenD, TL.addD_int, TL.subD_int, TL.ltD_int, TL.leD_int, TL.gtD_int, TL.geD_int, TL.negD_int, TL.eqD_int, TL.neD_int, Function.comp_apply, TL.pur, TL.e2, TL.eTold, TL.eLst, TL.eCons, TL.eNil, TL.eTup, TL.eCall, TL.eCallF, TL.eB, TL.eNot, TL.eOr, TL.eAnd, TL.eIf, TL.eFrz, TL.fFrz, TL.frzE, TL.mgE, TL.gPar, TL.vT, TL.vF, TL.vNil, TL.stE, TL.gSetE, TL.gOwnE, TL.gIfE, TL.gRetE, TL.gRetFE, TL.gAppE, TL.gPutE, TL.gPut, TL.gApp, TL.gAsgE, TL.gDropE, TL.ownE, TL.fIxO, TL.eCallG, TL.eCallGF, TL.agSlot, TL.agVal, TL.agTmp, TL.agNil, TL.okAgs, TL.okSlots, TL.toSV, TL.backE, TL.isOw, TL.apart, TL.mE, TL.mEF, TL.outE, TL.outEF, TL.endE, TL.parE, TL.kpOk, List.range, List.range.loop, TL.gDict0, TL.gDPut, TL.fGetO, TL.odE, TL.keyD, TL.gApp2, TL.ooE, TL.gFrzO, TL.frzOE, TL.fLcO, TL.gOwnO, TL.fStar, TL.fCallK, TL.fCallFK, TL.permL, TL.eLc, TL.gAll, TL.gAllE, TL.fSlO, TL.fFrzL, TL.eFrzL, TL.fT, TL.truD, TL.isNN, TL.gExt, TL.asL, TL.gOoL, TL.allF, TL.fFrzO, TL.bFrzO, TL.gForApp, TL.fStp, TL.gPop, TL.divmodD, TL.fLrg, TL.eSlTo, TL.flatD, TL.bFrz, TL.gFrz, TL.fFrzL, TL.gRevO, TL.gClear, TL.gPopAt, TL.gIns, TL.ePop, TL.gAug, TL.gForE, TL.jSeq, TL.jRg1, TL.jRg2, TL.jEn, TL.iRg3, TL.iRvR, TL.vS, TL.fIxOd, TL.fGetO, TL.fDin, TL.fDinN, TL.odE, TL.gFrzD, TL.frzDE, TL.fKeys, TL.fVals, TL.fPairs, TL.f3, lp, c1]
      simp only [whG, hC, Option.bind_some]
      rfl
theorem end_of {P : Pl} (w : WF P) {s e : Nat} (he : EndOf P s e) : M_end_of [encP P, .int (s : Int)] = some (.int (e : Int)) := by
  have le := w.le
  have l1 := he.lt
  have l2 := he.le
  have h := end_while he le 999 (s + 1) 1000 (by omega) l1 (by omega) (by omega)
  have eq1 : ((s + 1 : Nat) : Int) = (s : Int) + 1 := by omega
  rw [eq1] at h
  generalize encP P = pl at *
  generalize (s : Int) = ss at *
  generalize (e : Int) = ee at *
  have hG : G_end_of [.sh pl, .sh (.int ss), .un] = some (.rt (.int ee) [.sh pl, .sh (.int ss), .sh (.int ee)]) := by
    unfold G_end_of
    refine (gSeq_nx (e' := [.sh pl, .sh (.int ss), .sh (.int (ss + 1))]) (by simp [TL.gSeq, TL.gIf, TL.gSet, TL.gOwn, TL.gRet, TL.gRetF, TL.gRetO, TL.gNx, TL.gNo, TL.gBk, TL.gCt, TL.gAsg, TL.fVar, TL.fC, TL.f2, TL.f1, TL.fCons, TL.fNil, TL.fTup, TL.fLst, TL.fCall, TL.fCallF, TL.fTold, TL.fIf, TL.fAnd, TL.fOr, TL.fNot, TL.fMapD, TL.fB, TL.bOr, TL.bAnd, TL.bNot, TL.bYes, TL.fCh, TL.iSeq, TL.iRg1, TL.iRg2, TL.iEn, TL.iZp, TL.aNm, TL.aTup, TL.aCons, TL.aNil, TL.fSl, TL.pSome, TL.pNo, TL.asI, TL.asN, TL.asB, TL.ent, TL.mV, TL.mF, TL.outV, TL.outF, TL.tyNe, TL.tyEq, TL.tyN, TL.lenD, TL.addD_int, TL.subD_int, TL.ltD_int, TL.leD_int, TL.gtD_int, TL.geD_int, TL.negD_int, TL.eqD_int, TL.neD_int, Function.comp_apply, TL.pur, TL.e2, TL.eTold, TL.eLst, TL.eCons, TL.eNil, TL.eTup, TL.eCall, TL.eCallF, TL.eB, TL.eNot, TL.eOr, TL.eAnd, TL.eIf, TL.eFrz, TL.fFrz, TL.frzE, TL.mgE, TL.gPar, TL.vT, TL.vF, TL.vNil, TL.stE, TL.gSetE, TL.gOwnE, TL.gIfE, TL.gRetE, TL.gRetFE, TL.gAppE, TL.gPutE, TL.gPut, TL.gApp, TL.gAsgE, TL.gDropE, TL.ownE, TL.fIxO, TL.eCallG, TL.eCallGF, TL.agSlot, TL.agVal, TL.agTmp, TL.agNil, TL.okAgs, TL.okSlots, TL.toSV, TL.backE, TL.isOw, TL.apart, TL.mE, TL.mEF, TL.outE, TL.outEF, TL.endE, TL.parE, TL.kpOk, List.range, List.range.loop, TL.gDict0, TL.gDPut, TL.fGetO, TL.odE, TL.keyD, TL.gApp2, TL.ooE, TL.gFrzO, TL.frzOE, TL.fLcO, TL.gOwnO, TL.fStar, TL.fCallK, TL.fCallFK, TL.permL, TL.eLc, TL.gAll, TL.gAllE, TL.fSlO, TL.fFrzL, TL.eFrzL, TL.fT, TL.truD, TL.isNN, TL.gExt, TL.asL, TL.gOoL, TL.allF, TL.fFrzO, TL.bFrzO, TL.gForApp, TL.fStp, TL.gPop, TL.divmodD, TL.fLrg, TL.eSlTo, TL.flatD, TL.bFrz, TL.gFrz, TL.fFrzL, TL.gRevO, TL.gClear, TL.gPopAt, TL.gIns, TL.ePop, TL.gAug, TL.gForE, TL.jSeq, TL.jRg1, TL.jRg2, TL.jEn, TL.iRg3, TL.iRvR, TL.vS, TL.fIxOd, TL.fGetO, TL.fDin, TL.fDinN, TL.odE, TL.gFrzD, TL.frzDE, TL.fKeys, TL.fVals, TL.fPairs, TL.f3, ])).trans ?_
    refine (gSeq_nx (e' := [.sh pl, .sh (.int ss), .sh (.int ee)]) ?_).trans ?_
    · unfold L_end_of_1 gWh
      exact h
    · simp [TL.gSeq, TL.gIf, TL.gSet, TL.gOwn, TL.gRet, TL.gRetF, TL.gRetO, TL.gNx, TL.gNo, TL.gBk, TL.gCt, TL.gAsg, TL.fVar, TL.fC, TL.f2, TL.f1, TL.fCons, TL.fNil, TL.fTup, TL.fLst, TL.fCall, TL.fCallF, TL.fTold, TL.fIf, TL.fAnd, TL.fOr, TL.fNot, TL.fMapD, TL.fB, TL.bOr, TL.bAnd, TL.bNot, TL.bYes, TL.fCh, TL.iSeq, TL.iRg1, TL.iRg2, TL.iEn, TL.iZp, TL.aNm, TL.aTup, TL.aCons, TL.aNil, TL.fSl, TL.pSome, TL.pNo, TL.asI, TL.asN, TL.asB, TL.ent, TL.mV, TL.mF, TL.outV, TL.outF, TL.tyNe, TL.tyEq, TL.tyN, TL.lenD, TL.addD_int, TL.subD_int, TL.ltD_int, TL.leD_int, TL.gtD_int, TL.geD_int, TL.negD_int, TL.eqD_int, TL.neD_int, Function.comp_apply, TL.pur, TL.e2, TL.eTold, TL.eLst, TL.eCons, TL.eNil, TL.eTup, TL.eCall, TL.eCallF, TL.eB, TL.eNot, TL.eOr, TL.eAnd, TL.eIf, TL.eFrz, TL.fFrz, TL.frzE, TL.mgE, TL.gPar, TL.vT, TL.vF, TL.vNil, TL.stE, TL.gSetE, TL.gOwnE, TL.gIfE, TL.gRetE, TL.gRetFE, TL.gAppE, TL.gPutE, TL.gPut, TL.gApp, TL.gAsgE, TL.gDropE, TL.ownE, TL.fIxO, TL.eCallG, TL.eCallGF, TL.agSlot, TL.agVal, TL.agTmp, TL.agNil, TL.okAgs, TL.okSlots, TL.toSV, TL.backE, TL.isOw, TL.apart, TL.mE, TL.mEF, TL.outE, TL.outEF, TL.endE, TL.parE, TL.kpOk, List.range, List.range.loop, TL.gDict0, TL.gDPut, TL.fGetO, TL.odE, TL.keyD, TL.gApp2, TL.ooE, TL.gFrzO, TL.frzOE, TL.fLcO, TL.gOwnO, TL.fStar, TL.fCallK, TL.fCallFK, TL.permL, TL.eLc, TL.gAll, TL.gAllE, TL.fSlO, TL.fFrzL, TL.eFrzL, TL.fT, TL.truD, TL.isNN, TL.gExt, TL.asL, TL.gOoL, TL.allF, TL.fFrzO, TL.bFrzO, TL.gForApp, TL.fStp, TL.gPop, TL.divmodD, TL.fLrg, TL.eSlTo, TL.flatD, TL.bFrz, TL.gFrz, TL.fFrzL, TL.gRevO, TL.gClear, TL.gPopAt, TL.gIns, TL.ePop, TL.gAug, TL.gForE, TL.jSeq, TL.jRg1, TL.jRg2, TL.jEn, TL.iRg3, TL.iRvR, TL.vS, TL.fIxOd, TL.fGetO, TL.fDin, TL.fDinN, TL.odE, TL.gFrzD, TL.frzDE, TL.fKeys, TL.fVals, TL.fPairs, TL.f3, ]
  unfold M_end_of
  generalize G_end_of = GG at *
  simp [TL.gSeq, TL.gIf, TL.gSet, TL.gOwn, TL.gRet, TL.gRetF, TL.gRetO, TL.gNx, TL.gNo, TL.gBk, TL.gCt, TL.gAsg, TL.fVar, TL.fC, TL.f2, TL.f1, TL.fCons, TL.fNil, TL.fTup, TL.fLst, TL.fCall, TL.fCallF, TL.fTold, TL.fIf, TL.fAnd, TL.fOr, TL.fNot, TL.fMapD, TL.fB, TL.bOr, TL.bAnd, TL.bNot, TL.bYes, TL.fCh, TL.iSeq, TL.iRg1, TL.iRg2, TL.iEn, TL.iZp, TL.aNm, TL.aTup, TL.aCons, TL.aNil, TL.fSl, TL.pSome, TL.pNo, TL.asI, TL.asN, TL.asB, TL.ent, TL.mV, TL.mF, TL.outV, TL.outF, TL.tyNe, TL.tyEq, TL.tyN, TL.lenD, TL.addD_int, TL.subD_int, TL.ltD_int, TL.leD_int, TL.gtD_int, TL.geD_int, TL.negD_int, TL.eqD_int, TL.neD_int, Function.comp_apply, TL.pur, TL.e2, TL.eTold, TL.eLst, TL.eCons, TL.eNil, TL.eTup, TL.eCall, TL.eCallF, TL.eB, TL.eNot, TL.eOr, TL.eAnd, TL.eIf, TL.eFrz, TL.fFrz, TL.frzE, TL.mgE, TL.gPar, TL.vT, TL.vF, TL.vNil, TL.stE, TL.gSetE, TL.gOwnE, TL.gIfE, TL.gRetE, TL.gRetFE, TL.gAppE, TL.gPutE, TL.gPut, TL.gApp, TL.gAsgE, TL.gDropE, TL.ownE, TL.fIxO, TL.eCallG, TL.eCallGF, TL.agSlot, TL.agVal, TL.agTmp, TL.agNil, TL.okAgs, TL.okSlots, TL.toSV, TL.backE, TL.isOw, TL.apart, TL.mE, TL.mEF, TL.outE, TL.outEF, TL.endE, TL.parE, TL.kpOk, List.range, List.range.loop, hG]
theorem sections_within {P : Pl} (w : WF P) {s e : Nat} (hs : s < P.length) (he : EndOf P s e) : M_sections_within [encP P, .int (s : Int)] = some (encN (List.range' (s + 1) (e - (s + 1)))) := by
  have le := w.le
  have l1 := he.lt
  have l2 := he.le
  have h1 := check_plan w
  have h2 := check_section hs
  have h3 := end_of w he
  rw [← rng_nat]
  have c : 0 ≤ (s : Int) + 1 ∧ ((s : Int) + 1).toNat ≤ LN ∧ 0 ≤ (e : Int) ∧ (e : Int).toNat ≤ LN := by
    have : LN = 16777216 := rfl
    omega
  generalize encP P = pl at *
  generalize (s : Int) = ss at *
  generalize (e : Int) = ee at *
  have hF : (fLrg2 (f2 addD (fVar 1) (fC (.int 1))) (fCall (fun ds => if ds.length = 2 then M_end_of ds else none) (fCons (fVar 0) (fCons (fVar 1) fNil)))) [.sh pl, .sh (.int ss)] = some (rngD (ss + 1) (ee - (ss + 1)).toNat) := by
    unfold fLrg2
    have x1 : (f2 addD (fVar 1) (fC (.int 1))) [.sh pl, .sh (.int ss)] = some (.int (ss + 1)) := by simp [TL.gSeq, TL.gIf, TL.gSet, TL.gOwn, TL.gRet, TL.gRetF, TL.gRetO, TL.gNx, TL.gNo, TL.gBk, TL.gCt, TL.gAsg, TL.fVar, TL.fC, TL.f2, TL.f1, TL.fCons, TL.fNil, TL.fTup, TL.fLst, TL.fCall, TL.fCallF, TL.fTold, TL.fIf, TL.fAnd, TL.fOr, TL.fNot, TL.fMapD, TL.fB, TL.bOr, TL.bAnd, TL.bNot, TL.bYes, TL.fCh, TL.iSeq, TL.iRg1, TL.iRg2, TL.iEn, TL.iZp, TL.aNm, TL.aTup, TL.aCons, TL.aNil, TL.fSl, TL.pSome, TL.pNo, TL.asI, TL.asN, TL.asB, TL.ent, TL.mV, TL.mF, TL.outV, TL.outF, TL.tyNe, TL.tyEq, TL.tyN, TL.lenD, TL.addD_int, TL.subD_int, TL.ltD_int, TL.leD_int, TL.gtD_int, TL.geD_int, TL.negD_int, TL.eqD_int, TL.neD_int, Function.comp_apply, TL.pur, TL.e2, TL.eTold, TL.eLst, TL.eCons, TL.eNil, TL.eTup, TL.eCall, TL.eCallF, TL.eB, TL.eNot, TL.eOr, TL.eAnd, TL.eIf, TL.eFrz, TL.fFrz, TL.frzE, TL.mgE, TL.gPar, TL.vT, TL.vF, TL.vNil, TL.stE, TL.gSetE, TL.gOwnE, TL.gIfE, TL.gRetE, TL.gRetFE, TL.gAppE, TL.gPutE, TL.gPut, TL.gApp, TL.gAsgE, TL.gDropE, TL.ownE, TL.fIxO, TL.eCallG, TL.eCallGF, TL.agSlot, TL.agVal, TL.agTmp, TL.agNil, TL.okAgs, TL.okSlots, TL.toSV, TL.backE, TL.isOw, TL.apart, TL.mE, TL.mEF, TL.outE, TL.outEF, TL.endE, TL.parE, TL.kpOk, List.range, List.range.loop, TL.gDict0, TL.gDPut, TL.fGetO, TL.odE, TL.keyD, TL.gApp2, TL.ooE, TL.gFrzO, TL.frzOE, TL.fLcO, TL.gOwnO, TL.fStar, TL.fCallK, TL.fCallFK, TL.permL, TL.eLc, TL.gAll, TL.gAllE, TL.fSlO, TL.fFrzL, TL.eFrzL, TL.fT, TL.truD, TL.isNN, TL.gExt, TL.asL, TL.gOoL, TL.allF, TL.fFrzO, TL.bFrzO, TL.gForApp, TL.fStp, TL.gPop, TL.divmodD, TL.fLrg, TL.eSlTo, TL.flatD, TL.bFrz, TL.gFrz, TL.fFrzL, TL.gRevO, TL.gClear, TL.gPopAt, TL.gIns, TL.ePop, TL.gAug, TL.gForE, TL.jSeq, TL.jRg1, TL.jRg2, TL.jEn, TL.iRg3, TL.iRvR, TL.vS, TL.fIxOd, TL.fGetO, TL.fDin, TL.fDinN, TL.odE, TL.gFrzD, TL.frzDE, TL.fKeys, TL.fVals, TL.fPairs, TL.f3, ]
    have x2 : (fCall (fun ds => if ds.length = 2 then M_end_of ds else none) (fCons (fVar 0) (fCons (fVar 1) fNil))) [.sh pl, .sh (.int ss)] = some (.int ee) := by simp [TL.gSeq, TL.gIf, TL.gSet, TL.gOwn, TL.gRet, TL.gRetF, TL.gRetO, TL.gNx, TL.gNo, TL.gBk, TL.gCt, TL.gAsg, TL.fVar, TL.fC, TL.f2, TL.f1, TL.fCons, TL.fNil, TL.fTup, TL.fLst, TL.fCall, TL.fCallF, TL.fTold, TL.fIf, TL.fAnd, TL.fOr, TL.fNot, TL.fMapD, TL.fB, TL.bOr, TL.bAnd, TL.bNot, TL.bYes, TL.fCh, TL.iSeq, TL.iRg1, TL.iRg2, TL.iEn, TL.iZp, TL.aNm, TL.aTup, TL.aCons, TL.aNil, TL.fSl, TL.pSome, TL.pNo, TL.asI, TL.asN, TL.asB, TL.ent, TL.mV, TL.mF, TL.outV, TL.outF, TL.tyNe, TL.tyEq, TL.tyN, TL.lenD, TL.addD_int, TL.subD_int, TL.ltD_int, TL.leD_int, TL.gtD_int, TL.geD_int, TL.negD_int, TL.eqD_int, TL.neD_int, Function.comp_apply, TL.pur, TL.e2, TL.eTold, TL.eLst, TL.eCons, TL.eNil, TL.eTup, TL.eCall, TL.eCallF, TL.eB, TL.eNot, TL.eOr, TL.eAnd, TL.eIf, TL.eFrz, TL.fFrz, TL.frzE, TL.mgE, TL.gPar, TL.vT, TL.vF, TL.vNil, TL.stE, TL.gSetE, TL.gOwnE, TL.gIfE, TL.gRetE, TL.gRetFE, TL.gAppE, TL.gPutE, TL.gPut, TL.gApp, TL.gAsgE, TL.gDropE, TL.ownE, TL.fIxO, TL.eCallG, TL.eCallGF, TL.agSlot, TL.agVal, TL.agTmp, TL.agNil, TL.okAgs, TL.okSlots, TL.toSV, TL.backE, TL.isOw, TL.apart, TL.mE, TL.mEF, TL.outE, TL.outEF, TL.endE, TL.parE, TL.kpOk, List.range, List.range.loop, TL.gDict0, TL.gDPut, TL.fGetO, TL.odE, TL.keyD, TL.gApp2, TL.ooE, TL.gFrzO, TL.frzOE, TL.fLcO, TL.gOwnO, TL.fStar, TL.fCallK, TL.fCallFK, TL.permL, TL.eLc, TL.gAll, TL.gAllE, TL.fSlO, TL.fFrzL, TL.eFrzL, TL.fT, TL.truD, TL.isNN, TL.gExt, TL.asL, TL.gOoL, TL.allF, TL.fFrzO, TL.bFrzO, TL.gForApp, TL.fStp, TL.gPop, TL.divmodD, TL.fLrg, TL.eSlTo, TL.flatD, TL.bFrz, TL.gFrz, TL.fFrzL, TL.gRevO, TL.gClear, TL.gPopAt, TL.gIns, TL.ePop, TL.gAug, TL.gForE, TL.jSeq, TL.jRg1, TL.jRg2, TL.jEn, TL.iRg3, TL.iRvR, TL.vS, TL.fIxOd, TL.fGetO, TL.fDin, TL.fDinN, TL.odE, TL.gFrzD, TL.frzDE, TL.fKeys, TL.fVals, TL.fPairs, TL.f3, h3]
    rw [x1, x2]
    exact if_pos c
  have hG : G_sections_within [.sh pl, .sh (.int ss)] = some (.rf (rngD (ss + 1) (ee - (ss + 1)).toNat) [.sh pl, .sh (.int ss)]) := by
    unfold G_sections_within
    refine (gSeq_nx (e' := [.sh pl, .sh (.int ss)]) (by simp [TL.gSeq, TL.gIf, TL.gSet, TL.gOwn, TL.gRet, TL.gRetF, TL.gRetO, TL.gNx, TL.gNo, TL.gBk, TL.gCt, TL.gAsg, TL.fVar, TL.fC, TL.f2, TL.f1, TL.fCons, TL.fNil, TL.fTup, TL.fLst, TL.fCall, TL.fCallF, TL.fTold, TL.fIf, TL.fAnd, TL.fOr, TL.fNot, TL.fMapD, TL.fB, TL.bOr, TL.bAnd, TL.bNot, TL.bYes, TL.fCh, TL.iSeq, TL.iRg1, TL.iRg2, TL.iEn, TL.iZp, TL.aNm, TL.aTup, TL.aCons, TL.aNil, TL.fSl, TL.pSome, TL.pNo, TL.asI, TL.asN, TL.asB, TL.ent, TL.mV, TL.mF, TL.outV, TL.outF, TL.tyNe, TL.tyEq, TL.tyN, TL.lenD, TL.addD_int, TL.subD_int, TL.ltD_int, TL.leD_int, TL.gtD_int, TL.geD_int, TL.negD_int, TL.eqD_int, TL.neD_int, Function.comp_apply, TL.pur, TL.e2, TL.eTold, TL.eLst, TL.eCons, TL.eNil, TL.eTup, TL.eCall, TL.eCallF, TL.eB, TL.eNot, TL.eOr, TL.eAnd, TL.eIf, TL.eFrz, TL.fFrz, TL.frzE, TL.mgE, TL.gPar, TL.vT, TL.vF, TL.vNil, TL.stE, TL.gSetE, TL.gOwnE, TL.gIfE, TL.gRetE, TL.gRetFE, TL.gAppE, TL.gPutE, TL.gPut, TL.gApp, TL.gAsgE, TL.gDropE, TL.ownE, TL.fIxO, TL.eCallG, TL.eCallGF, TL.agSlot, TL.agVal, TL.agTmp, TL.agNil, TL.okAgs, TL.okSlots, TL.toSV, TL.backE, TL.isOw, TL.apart, TL.mE, TL.mEF, TL.outE, TL.outEF, TL.endE, TL.parE, TL.kpOk, List.range, List.range.loop, TL.gDict0, TL.gDPut, TL.fGetO, TL.odE, TL.keyD, TL.gApp2, TL.ooE, TL.gFrzO, TL.frzOE, TL.fLcO, TL.gOwnO, TL.fStar, TL.fCallK, TL.fCallFK, TL.permL, TL.eLc, TL.gAll, TL.gAllE, TL.fSlO, TL.fFrzL, TL.eFrzL, TL.fT, TL.truD, TL.isNN, TL.gExt, TL.asL, TL.gOoL, TL.allF, TL.fFrzO, TL.bFrzO, TL.gForApp, TL.fStp, TL.gPop, TL.divmodD, TL.fLrg, TL.eSlTo, TL.flatD, TL.bFrz, TL.gFrz, TL.fFrzL, TL.gRevO, TL.gClear, TL.gPopAt, TL.gIns, TL.ePop, TL.gAug, TL.gForE, TL.jSeq, TL.jRg1, TL.jRg2, TL.jEn, TL.iRg3, TL.iRvR, TL.vS, TL.fIxOd, TL.fGetO, TL.fDin, TL.fDinN, TL.odE, TL.gFrzD, TL.frzDE, TL.fKeys, TL.fVals, TL.fPairs, TL.f3, h1])).trans ?_
    refine (gSeq_nx (e' := [.sh pl, .sh (.int ss)]) (by simp [TL.gSeq, TL.gIf, TL.gSet, TL.gOwn, TL.gRet, TL.gRetF, TL.gRetO, TL.gNx, TL.gNo, TL.gBk, TL.gCt, TL.gAsg, TL.fVar, TL.fC, TL.f2, TL.f1, TL.fCons, TL.fNil, TL.fTup, TL.fLst, TL.fCall, TL.fCallF, TL.fTold, TL.fIf, TL.fAnd, TL.fOr, TL.fNot, TL.fMapD, TL.fB, TL.bOr, TL.bAnd, TL.bNot, TL.bYes, TL.fCh, TL.iSeq, TL.iRg1, TL.iRg2, TL.iEn, TL.iZp, TL.aNm, TL.aTup, TL.aCons, TL.aNil, TL.fSl, TL.pSome, TL.pNo, TL.asI, TL.asN, TL.asB, TL.ent, TL.mV, TL.mF, TL.outV, TL.outF, TL.tyNe, TL.tyEq, TL.tyN, TL.lenD, TL.addD_int, TL.subD_int, TL.ltD_int, TL.leD_int, TL.gtD_int, TL.geD_int, TL.negD_int, TL.eqD_int, TL.neD_int, Function.comp_apply, TL.pur, TL.e2, TL.eTold, TL.eLst, TL.eCons, TL.eNil, TL.eTup, TL.eCall, TL.eCallF, TL.eB, TL.eNot, TL.eOr, TL.eAnd, TL.eIf, TL.eFrz, TL.fFrz, TL.frzE, TL.mgE, TL.gPar, TL.vT, TL.vF, TL.vNil, TL.stE, TL.gSetE, TL.gOwnE, TL.gIfE, TL.gRetE, TL.gRetFE, TL.gAppE, TL.gPutE, TL.gPut, TL.gApp, TL.gAsgE, TL.gDropE, TL.ownE, TL.fIxO, TL.eCallG, TL.eCallGF, TL.agSlot, TL.agVal, TL.agTmp, TL.agNil, TL.okAgs, TL.okSlots, TL.toSV, TL.backE, TL.isOw, TL.apart, TL.mE, TL.mEF, TL.outE, TL.outEF, TL.endE, TL.parE, TL.kpOk, List.range, List.range.loop, TL.gDict0, TL.gDPut, TL.fGetO, TL.odE, TL.keyD, TL.gApp2, TL.ooE, TL.gFrzO, TL.frzOE, TL.fLcO, TL.gOwnO, TL.fStar, TL.fCallK, TL.fCallFK, TL.permL, TL.eLc, TL.gAll, TL.gAllE, TL.fSlO, TL.fFrzL, TL.eFrzL, TL.fT, TL.truD, TL.isNN, TL.gExt, TL.asL, TL.gOoL, TL.allF, TL.fFrzO, TL.bFrzO, TL.gForApp, TL.fStp, TL.gPop, TL.divmodD, TL.fLrg, TL.eSlTo, TL.flatD, TL.bFrz, TL.gFrz, TL.fFrzL, TL.gRevO, TL.gClear, TL.gPopAt, TL.gIns, TL.ePop, TL.gAug, TL.gForE, TL.jSeq, TL.jRg1, TL.jRg2, TL.jEn, TL.iRg3, TL.iRvR, TL.vS, TL.fIxOd, TL.fGetO, TL.fDin, TL.fDinN, TL.odE, TL.gFrzD, TL.frzDE, TL.fKeys, TL.fVals, TL.fPairs, TL.f3, h2])).trans ?_
    generalize (fLrg2 (f2 addD (fVar 1) (fC (.int 1))) (fCall (fun ds => if ds.length = 2 then M_end_of ds else none) (fCons (fVar 0) (fCons (fVar 1) fNil)))) = FF at *
    simp [TL.gSeq, TL.gIf, TL.gSet, TL.gOwn, TL.gRet, TL.gRetF, TL.gRetO, TL.gNx, TL.gNo, TL.gBk, TL.gCt, TL.gAsg, TL.fVar, TL.fC, TL.f2, TL.f1, TL.fCons, TL.fNil, TL.fTup, TL.fLst, TL.fCall, TL.fCallF, TL.fTold, TL.fIf, TL.fAnd, TL.fOr, TL.fNot, TL.fMapD, TL.fB, TL.bOr, TL.bAnd, TL.bNot, TL.bYes, TL.fCh, TL.iSeq, TL.iRg1, TL.iRg2, TL.iEn, TL.iZp, TL.aNm, TL.aTup, TL.aCons, TL.aNil, TL.fSl, TL.pSome, TL.pNo, TL.asI, TL.asN, TL.asB, TL.ent, TL.mV, TL.mF, TL.outV, TL.outF, TL.tyNe, TL.tyEq, TL.tyN, TL.lenD, TL.addD_int, TL.subD_int, TL.ltD_int, TL.leD_int, TL.gtD_int, TL.geD_int, TL.negD_int, TL.eqD_int, TL.neD_int, Function.comp_apply, TL.pur, TL.e2, TL.eTold, TL.eLst, TL.eCons, TL.eNil, TL.eTup, TL.eCall, TL.eCallF, TL.eB, TL.eNot, TL.eOr, TL.eAnd, TL.eIf, TL.eFrz, TL.fFrz, TL.frzE, TL.mgE, TL.gPar, TL.vT, TL.vF, TL.vNil, TL.stE, TL.gSetE, TL.gOwnE, TL.gIfE, TL.gRetE, TL.gRetFE, TL.gAppE, TL.gPutE, TL.gPut, TL.gApp, TL.gAsgE, TL.gDropE, TL.ownE, TL.fIxO, TL.eCallG, TL.eCallGF, TL.agSlot, TL.agVal, TL.agTmp, TL.agNil, TL.okAgs, TL.okSlots, TL.toSV, TL.backE, TL.isOw, TL.apart, TL.mE, TL.mEF, TL.outE, TL.outEF, TL.endE, TL.parE, TL.kpOk, List.range, List.range.loop, TL.gDict0, TL.gDPut, TL.fGetO, TL.odE, TL.keyD, TL.gApp2, TL.ooE, TL.gFrzO, TL.frzOE, TL.fLcO, TL.gOwnO, TL.fStar, TL.fCallK, TL.fCallFK, TL.permL, TL.eLc, TL.gAll, TL.gAllE, TL.fSlO, TL.fFrzL, TL.eFrzL, TL.fT, TL.truD, TL.isNN, TL.gExt, TL.asL, TL.gOoL, TL.allF, TL.fFrzO, TL.bFrzO, TL.gForApp, TL.fStp, TL.gPop, TL.divmodD, TL.fLrg, TL.eSlTo, TL.flatD, TL.bFrz, TL.gFrz, TL.fFrzL, TL.gRevO, TL.gClear, TL.gPopAt, TL.gIns, TL.ePop, TL.gAug, TL.gForE, TL.jSeq, TL.jRg1, TL.jRg2, TL.jEn, TL.iRg3, TL.iRvR, TL.vS, TL.fIxOd, TL.fGetO, TL.fDin, TL.fDinN, TL.odE, TL.gFrzD, TL.frzDE, TL.fKeys, TL.fVals, TL.fPairs, TL.f3, hF]
  unfold M_sections_within
  generalize G_sections_within = GG at *
  simp [TL.gSeq, TL.gIf, TL.gSet, TL.gOwn, TL.gRet, TL.gRetF, TL.gRetO, TL.gNx, TL.gNo, TL.gBk, TL.gCt, TL.gAsg, TL.fVar, TL.fC, TL.f2, TL.f1, TL.fCons, TL.fNil, TL.fTup, TL.fLst, TL.fCall, TL.fCallF, TL.fTold, TL.fIf, TL.fAnd, TL.fOr, TL.fNot, TL.fMapD, TL.fB, TL.bOr, TL.bAnd, TL.bNot, TL.bYes, TL.fCh, TL.iSeq, TL.iRg1, TL.iRg2, TL.iEn, TL.iZp, TL.aNm, TL.aTup, TL.aCons, TL.aNil, TL.fSl, TL.pSome, TL.pNo, TL.asI, TL.asN, TL.asB, TL.ent, TL.mV, TL.mF, TL.outV, TL.outF, TL.tyNe, TL.tyEq, TL.tyN, TL.lenD, TL.addD_int, TL.subD_int, TL.ltD_int, TL.leD_int, TL.gtD_int, TL.geD_int, TL.negD_int, TL.eqD_int, TL.neD_int, Function.comp_apply, TL.pur, TL.e2, TL.eTold, TL.eLst, TL.eCons, TL.eNil, TL.eTup, TL.eCall, TL.eCallF, TL.eB, TL.eNot, TL.eOr, TL.eAnd, TL.eIf, TL.eFrz, TL.fFrz, TL.frzE, TL.mgE, TL.gPar, TL.vT, TL.vF, TL.vNil, TL.stE, TL.gSetE, TL.gOwnE, TL.gIfE, TL.gRetE, TL.gRetFE, TL.gAppE, TL.gPutE, TL.gPut, TL.gApp, TL.gAsgE, TL.gDropE, TL.ownE, TL.fIxO, TL.eCallG, TL.eCallGF, TL.agSlot, TL.agVal, TL.agTmp, TL.agNil, TL.okAgs, TL.okSlots, TL.toSV, TL.backE, TL.isOw, TL.apart, TL.mE, TL.mEF, TL.outE, TL.outEF, TL.endE, TL.parE, TL.kpOk, List.range, List.range.loop, hG]
theorem plan_without {P : Pl} (w : WF P) {s e : Nat} (h0 : 0 < s) (hs : s < P.length) (he : EndOf P s e) : M_plan_without [encP P, .int (s : Int)] = some ((P.take s ++ P.drop e).map encR) := by
  have le := w.le
  have l1 := he.lt
  have l2 := he.le
  have h1 := check_plan w
  have h2 := check_below h0 hs
  have h3 := end_of w he
  have c1 : cutX (P.map encR) none (some (s : Int)) = (P.take s).map encR := by rw [cutX_to, List.map_take]
  have c2 : cutX (P.map encR) (some (e : Int)) none = (P.drop e).map encR := by rw [cutX_from, List.map_drop]
  have ad : addF (.list ((P.take s).map encR)) (.list ((P.drop e).map encR)) = some ((P.take s ++ P.drop e).map encR) := by
    rw [List.map_append]
    refine if_pos ?_
    rw [List.length_map, List.length_map, List.length_take, List.length_drop]
    show _ ≤ 16777216; omega
  have ep : encP P = .list (P.map encR) := rfl
  rw [ep] at h1 h2 h3 ⊢
  generalize (P.take s ++ P.drop e).map encR = out at *
  generalize (P.take s).map encR = x1 at *
  generalize (P.drop e).map encR = x2 at *
  generalize P.map encR = pl at *
  generalize (s : Int) = ss at *
  generalize (e : Int) = ee at *
  have hG : G_plan_without [.sh (.list pl), .sh (.int ss)] = some (.rf out [.sh (.list pl), .sh (.int ss)]) := by
    unfold G_plan_without
    refine (gSeq_nx (e' := [.sh (.list pl), .sh (.int ss)]) (by simp [TL.gSeq, TL.gIf, TL.gSet, TL.gOwn, TL.gRet, TL.gRetF, TL.gRetO, TL.gNx, TL.gNo, TL.gBk, TL.gCt, TL.gAsg, TL.fVar, TL.fC, TL.f2, TL.f1, TL.fCons, TL.fNil, TL.fTup, TL.fLst, TL.fCall, TL.fCallF, TL.fTold, TL.fIf, TL.fAnd, TL.fOr, TL.fNot, TL.fMapD, TL.fB, TL.bOr, TL.bAnd, TL.bNot, TL.bYes, TL.fCh, TL.iSeq, TL.iRg1, TL.iRg2, TL.iEn, TL.iZp, TL.aNm, TL.aTup, TL.aCons, TL.aNil, TL.fSl, TL.pSome, TL.pNo, TL.asI, TL.asN, TL.asB, TL.ent, TL.mV, TL.mF, TL.outV, TL.outF, TL.tyNe, TL.tyEq, TL.tyN, TL.lenD, TL.addD_int, TL.subD_int, TL.ltD_int, TL.leD_int, TL.gtD_int, TL.geD_int, TL.negD_int, TL.eqD_int, TL.neD_int, Function.comp_apply, TL.pur, TL.e2, TL.eTold, TL.eLst, TL.eCons, TL.eNil, TL.eTup, TL.eCall, TL.eCallF, TL.eB, TL.eNot, TL.eOr, TL.eAnd, TL.eIf, TL.eFrz, TL.fFrz, TL.frzE, TL.mgE, TL.gPar, TL.vT, TL.vF, TL.vNil, TL.stE, TL.gSetE, TL.gOwnE, TL.gIfE, TL.gRetE, TL.gRetFE, TL.gAppE, TL.gPutE, TL.gPut, TL.gApp, TL.gAsgE, TL.gDropE, TL.ownE, TL.fIxO, TL.eCallG, TL.eCallGF, TL.agSlot, TL.agVal, TL.agTmp, TL.agNil, TL.okAgs, TL.okSlots, TL.toSV, TL.backE, TL.isOw, TL.apart, TL.mE, TL.mEF, TL.outE, TL.outEF, TL.endE, TL.parE, TL.kpOk, List.range, List.range.loop, TL.gDict0, TL.gDPut, TL.fGetO, TL.odE, TL.keyD, TL.gApp2, TL.ooE, TL.gFrzO, TL.frzOE, TL.fLcO, TL.gOwnO, TL.fStar, TL.fCallK, TL.fCallFK, TL.permL, TL.eLc, TL.gAll, TL.gAllE, TL.fSlO, TL.fFrzL, TL.eFrzL, TL.fT, TL.truD, TL.isNN, TL.gExt, TL.asL, TL.gOoL, TL.allF, TL.fFrzO, TL.bFrzO, TL.gForApp, TL.fStp, TL.gPop, TL.divmodD, TL.fLrg, TL.eSlTo, TL.flatD, TL.bFrz, TL.gFrz, TL.fFrzL, TL.gRevO, TL.gClear, TL.gPopAt, TL.gIns, TL.ePop, TL.gAug, TL.gForE, TL.jSeq, TL.jRg1, TL.jRg2, TL.jEn, TL.iRg3, TL.iRvR, TL.vS, TL.fIxOd, TL.fGetO, TL.fDin, TL.fDinN, TL.odE, TL.gFrzD, TL.frzDE, TL.fKeys, TL.fVals, TL.fPairs, TL.f3, h1])).trans ?_
    refine (gSeq_nx (e' := [.sh (.list pl), .sh (.int ss)]) (by simp [TL.gSeq, TL.gIf, TL.gSet, TL.gOwn, TL.gRet, TL.gRetF, TL.gRetO, TL.gNx, TL.gNo, TL.gBk, TL.gCt, TL.gAsg, TL.fVar, TL.fC, TL.f2, TL.f1, TL.fCons, TL.fNil, TL.fTup, TL.fLst, TL.fCall, TL.fCallF, TL.fTold, TL.fIf, TL.fAnd, TL.fOr, TL.fNot, TL.fMapD, TL.fB, TL.bOr, TL.bAnd, TL.bNot, TL.bYes, TL.fCh, TL.iSeq, TL.iRg1, TL.iRg2, TL.iEn, TL.iZp, TL.aNm, TL.aTup, TL.aCons, TL.aNil, TL.fSl, TL.pSome, TL.pNo, TL.asI, TL.asN, TL.asB, TL.ent, TL.mV, TL.mF, TL.outV, TL.outF, TL.tyNe, TL.tyEq, TL.tyN, TL.lenD, TL.addD_int, TL.subD_int, TL.ltD_int, TL.leD_int, TL.gtD_int, TL.geD_int, TL.negD_int, TL.eqD_int, TL.neD_int, Function.comp_apply, TL.pur, TL.e2, TL.eTold, TL.eLst, TL.eCons, TL.eNil, TL.eTup, TL.eCall, TL.eCallF, TL.eB, TL.eNot, TL.eOr, TL.eAnd, TL.eIf, TL.eFrz, TL.fFrz, TL.frzE, TL.mgE, TL.gPar, TL.vT, TL.vF, TL.vNil, TL.stE, TL.gSetE, TL.gOwnE, TL.gIfE, TL.gRetE, TL.gRetFE, TL.gAppE, TL.gPutE, TL.gPut, TL.gApp, TL.gAsgE, TL.gDropE, TL.ownE, TL.fIxO, TL.eCallG, TL.eCallGF, TL.agSlot, TL.agVal, TL.agTmp, TL.agNil, TL.okAgs, TL.okSlots, TL.toSV, TL.backE, TL.isOw, TL.apart, TL.mE, TL.mEF, TL.outE, TL.outEF, TL.endE, TL.parE, TL.kpOk, List.range, List.range.loop, TL.gDict0, TL.gDPut, TL.fGetO, TL.odE, TL.keyD, TL.gApp2, TL.ooE, TL.gFrzO, TL.frzOE, TL.fLcO, TL.gOwnO, TL.fStar, TL.fCallK, TL.fCallFK, TL.permL, TL.eLc, TL.gAll, TL.gAllE, TL.fSlO, TL.fFrzL, TL.eFrzL, TL.fT, TL.truD, TL.isNN, TL.gExt, TL.asL, TL.gOoL, TL.allF, TL.fFrzO, TL.bFrzO, TL.gForApp, TL.fStp, TL.gPop, TL.divmodD, TL.fLrg, TL.eSlTo, TL.flatD, TL.bFrz, TL.gFrz, TL.fFrzL, TL.gRevO, TL.gClear, TL.gPopAt, TL.gIns, TL.ePop, TL.gAug, TL.gForE, TL.jSeq, TL.jRg1, TL.jRg2, TL.jEn, TL.iRg3, TL.iRvR, TL.vS, TL.fIxOd, TL.fGetO, TL.fDin, TL.fDinN, TL.odE, TL.gFrzD, TL.frzDE, TL.fKeys, TL.fVals, TL.fPairs, TL.f3, h2])).trans ?_
    simp [TL.gSeq, TL.gIf, TL.gSet, TL.gOwn, TL.gRet, TL.gRetF, TL.gRetO, TL.gNx, TL.gNo, TL.gBk, TL.gCt, TL.gAsg, TL.fVar, TL.fC, TL.f2, TL.f1, TL.fCons, TL.fNil, TL.fTup, TL.fLst, TL.fCall, TL.fCallF, TL.fTold, TL.fIf, TL.fAnd, TL.fOr, TL.fNot, TL.fMapD, TL.fB, TL.bOr, TL.bAnd, TL.bNot, TL.bYes, TL.fCh, TL.iSeq, TL.iRg1, TL.iRg2, TL.iEn, TL.iZp, TL.aNm, TL.aTup, TL.aCons, TL.aNil, TL.fSl, TL.pSome, TL.pNo, TL.asI, TL.asN, TL.asB, TL.ent, TL.mV, TL.mF, TL.outV, TL.outF, TL.tyNe, TL.tyEq, TL.tyN, TL.lenD, TL.addD_int, TL.subD_int, TL.ltD_int, TL.leD_int, TL.gtD_int, TL.geD_int, TL.negD_int, TL.eqD_int, TL.neD_int, Function.comp_apply, TL.pur, TL.e2, TL.eTold, TL.eLst, TL.eCons, TL.eNil, TL.eTup, TL.eCall, TL.eCallF, TL.eB, TL.eNot, TL.eOr, TL.eAnd, TL.eIf, TL.eFrz, TL.fFrz, TL.frzE, TL.mgE, TL.gPar, TL.vT, TL.vF, TL.vNil, TL.stE, TL.gSetE, TL.gOwnE, TL.gIfE, TL.gRetE, TL.gRetFE, TL.gAppE, TL.gPutE, TL.gPut, TL.gApp, TL.gAsgE, TL.gDropE, TL.ownE, TL.fIxO, TL.eCallG, TL.eCallGF, TL.agSlot, TL.agVal, TL.agTmp, TL.agNil, TL.okAgs, TL.okSlots, TL.toSV, TL.backE, TL.isOw, TL.apart, TL.mE, TL.mEF, TL.outE, TL.outEF, TL.endE, TL.parE, TL.kpOk, List.range, List.range.loop, TL.gDict0, TL.gDPut, TL.fGetO, TL.odE, TL.keyD, TL.gApp2, TL.ooE, TL.gFrzO, TL.frzOE, TL.fLcO, TL.gOwnO, TL.fStar, TL.fCallK, TL.fCallFK, TL.permL, TL.eLc, TL.gAll, TL.gAllE, TL.fSlO, TL.fFrzL, TL.eFrzL, TL.fT, TL.truD, TL.isNN, TL.gExt, TL.asL, TL.gOoL, TL.allF, TL.fFrzO, TL.bFrzO, TL.gForApp, TL.fStp, TL.gPop, TL.divmodD, TL.fLrg, TL.eSlTo, TL.flatD, TL.bFrz, TL.gFrz, TL.fFrzL, TL.gRevO, TL.gClear, TL.gPopAt, TL.gIns, TL.ePop, TL.gAug, TL.gForE, TL.jSeq, TL.jRg1, TL.jRg2, TL.jEn, TL.iRg3, TL.iRvR, TL.vS, TL.fIxOd, TL.fGetO, TL.fDin, TL.fDinN, TL.odE, TL.gFrzD, TL.frzDE, TL.fKeys, TL.fVals, TL.fPairs, TL.f3, f2F, fSl, h3, c1, c2, ad]
  unfold M_plan_without
  generalize G_plan_without = GG at *
  simp [TL.gSeq, TL.gIf, TL.gSet, TL.gOwn, TL.gRet, TL.gRetF, TL.gRetO, TL.gNx, TL.gNo, TL.gBk, TL.gCt, TL.gAsg, TL.fVar, TL.fC, TL.f2, TL.f1, TL.fCons, TL.fNil, TL.fTup, TL.fLst, TL.fCall, TL.fCallF, TL.fTold, TL.fIf, TL.fAnd, TL.fOr, TL.fNot, TL.fMapD, TL.fB, TL.bOr, TL.bAnd, TL.bNot, TL.bYes, TL.fCh, TL.iSeq, TL.iRg1, TL.iRg2, TL.iEn, TL.iZp, TL.aNm, TL.aTup, TL.aCons, TL.aNil, TL.fSl, TL.pSome, TL.pNo, TL.asI, TL.asN, TL.asB, TL.ent, TL.mV, TL.mF, TL.outV, TL.outF, TL.tyNe, TL.tyEq, TL.tyN, TL.lenD, TL.addD_int, TL.subD_int, TL.ltD_int, TL.leD_int, TL.gtD_int, TL.geD_int, TL.negD_int, TL.eqD_int, TL.neD_int, Function.comp_apply, TL.pur, TL.e2, TL.eTold, TL.eLst, TL.eCons, TL.eNil, TL.eTup, TL.eCall, TL.eCallF, TL.eB, TL.eNot, TL.eOr, TL.eAnd, TL.eIf, TL.eFrz, TL.fFrz, TL.frzE, TL.mgE, TL.gPar, TL.vT, TL.vF, TL.vNil, TL.stE, TL.gSetE, TL.gOwnE, TL.gIfE, TL.gRetE, TL.gRetFE, TL.gAppE, TL.gPutE, TL.gPut, TL.gApp, TL.gAsgE, TL.gDropE, TL.ownE, TL.fIxO, TL.eCallG, TL.eCallGF, TL.agSlot, TL.agVal, TL.agTmp, TL.agNil, TL.okAgs, TL.okSlots, TL.toSV, TL.backE, TL.isOw, TL.apart, TL.mE, TL.mEF, TL.outE, TL.outEF, TL.endE, TL.parE, TL.kpOk, List.range, List.range.loop, hG]
end K14
set_option Elab.async false
set_option linter.all false
set_option maxRecDepth 100000
namespace K14
open PySem PySem.Spec L2 TL AC
theorem glueL_len (z : List Nat) : ∀ ps : List Str, (StrLaws.glueL z ps).length = (ps.map fun p => (tl p).length).sum + ps.length * z.length
  | [] => by simp [StrLaws.glueL]
  | p :: r => by
    rw [StrLaws.glueL, List.length_append, List.length_append, glueL_len z r, List.map_cons, List.sum_cons, List.length_cons, Nat.add_mul]
    have : p.cps.toList.length = (tl p).length := rfl
    omega
theorem glueT_len (z : List Nat) (p : Str) (r : List Str) : (StrLaws.glueT z (p :: r)).length = ((p :: r).map fun p => (tl p).length).sum + r.length * z.length := by
  rw [StrLaws.glueT, List.length_append, glueL_len, List.map_cons, List.sum_cons]
  have : p.cps.toList.length = (tl p).length := rfl
  omega
theorem parts_len (x : Str) (n : Nat) : ∀ (cuts : List Nat) (a : Nat), (StrLaws.partsFrom x n a cuts).length = cuts.length + 1
  | [], a => rfl
  | c :: r, a => by
    show (StrLaws.partsFrom x n (c + n) r).length + 1 = _
    rw [parts_len x n r]; rfl
theorem count_len {x y : Str} (hy : 1 ≤ y.length) : Txt.count x y = ((StrLaws.replL (tl y) [0] (tl x)).length : Int) - ((StrLaws.replL (tl y) [] (tl x)).length : Int) := by
  obtain ⟨f, hc, hn⟩ := StrLaws.occ_tight x y hy
  have h0 := StrLaws.repl_chain (z := ⟨#[0]⟩) hy _ 0 f hc hn (Nat.zero_le _)
  have h1 := StrLaws.repl_chain (z := ⟨#[]⟩) hy _ 0 f hc hn (Nat.zero_le _)
  rw [List.drop_zero] at h0 h1
  unfold Txt.count
  generalize Builtin.Str.occurrences x y 0 x.length (x.length + 1) = cuts at *
  obtain ⟨p, r, e⟩ := StrLaws.partsFrom_ne x y.length 0 cuts
  have hl := parts_len x y.length cuts 0
  rw [e] at h0 h1 hl
  show ((cuts.length : Nat) : Int) = ((StrLaws.replL y.cps.toList [0] x.cps.toList).length : Int) - ((StrLaws.replL y.cps.toList [] x.cps.toList).length : Int)
  have a0 : (StrLaws.replL y.cps.toList [0] x.cps.toList).length = ((p :: r).map fun p => (tl p).length).sum + r.length * 1 := by
    exact (congrArg List.length h0.symm).trans (glueT_len [0] p r)
  have a1 : (StrLaws.replL y.cps.toList [] x.cps.toList).length = ((p :: r).map fun p => (tl p).length).sum + r.length * 0 := by
    exact (congrArg List.length h1.symm).trans (glueT_len [] p r)
  rw [a0, a1]
  rw [List.length_cons] at hl
  omega
theorem flat_zero (a : Nat) : ∀ l : List Nat, (l.flatMap fun c => if c = a then [0] else [c]).length = l.length
  | [] => rfl
  | c :: r => by
    rw [List.flatMap_cons, List.length_append, flat_zero a r, List.length_cons]
    split
    · rw [List.length_singleton]; omega
    · rw [List.length_singleton]; omega
theorem flat_none (a : Nat) : ∀ l : List Nat, (l.flatMap fun c => if c = a then [] else [c]).length + l.count a = l.length
  | [] => rfl
  | c :: r => by
    have ih := flat_none a r
    rw [List.flatMap_cons, List.length_append, List.length_cons, List.count_cons]
    by_cases h : c = a
    · subst h; rw [if_pos rfl, if_pos (by simp), List.length_nil]; omega
    · rw [if_neg h, if_neg (by simpa using h), List.length_singleton]; omega
theorem count_one {x y : Str} {a : Nat} (h : tl y = [a]) : Txt.count x y = (((tl x).count a : Nat) : Int) := by
  have hy : 1 ≤ y.length := by rw [len_tl, h]; exact Nat.le_refl 1
  rw [count_len hy, h, repl_one, repl_one, flat_zero]
  have := flat_none a (tl x)
  omega
theorem nm_one : tl Kd.one.nm = [111, 110, 101] := by decide +kernel
theorem nm_tab : tl Kd.tab.nm = [116, 97, 98] := by decide +kernel
theorem nm_step : tl Kd.step.nm = [115, 116, 101, 112] := by decide +kernel
theorem repl_nm (k y : Kd) (z r : List Nat) : StrLaws.replL (tl y.nm) z (tl k.nm ++ r) = (if k = y then z else tl k.nm) ++ StrLaws.replL (tl y.nm) z r := by
  cases k <;> cases y <;> simp only [nm_one, nm_tab, nm_step, List.cons_append, List.nil_append, if_true, reduceCtorEq, if_false]
  all_goals first
    | (rw [StrLaws.replL_hit (by simp) (by simp)]; rfl)
    | (rw [StrLaws.replL_miss (by simp), StrLaws.replL_miss (by simp), StrLaws.replL_miss (by simp), StrLaws.replL_miss (by simp)])
    | (rw [StrLaws.replL_miss (by simp), StrLaws.replL_miss (by simp), StrLaws.replL_miss (by simp)])
theorem repl_sep (y : Kd) (z r : List Nat) {c : Nat} (h : c < 97) : StrLaws.replL (tl y.nm) z (c :: r) = c :: StrLaws.replL (tl y.nm) z r := by
  have h1 : c ≠ 111 := by omega
  have h2 : c ≠ 116 := by omega
  have h3 : c ≠ 115 := by omega
  cases y <;> simp only [nm_one, nm_tab, nm_step] <;> rw [StrLaws.replL_miss (by simp [h1, h2, h3])]
theorem repl_seps (y : Kd) (z r : List Nat) : ∀ l : List Nat, (∀ c ∈ l, c < 97) → StrLaws.replL (tl y.nm) z (l ++ r) = l ++ StrLaws.replL (tl y.nm) z r
  | [], _ => rfl
  | c :: l, h => by
    rw [List.cons_append, repl_sep y z _ (h c (.head _)), repl_seps y z r l fun d m => h d (.tail _ m)]; rfl
theorem nm_big (y : Kd) : ∀ c ∈ tl y.nm, 97 ≤ c := by cases y <;> decide +kernel
theorem repl_last (y : Kd) (z : List Nat) : ∀ (n : Nat) (l : List Nat), l.length ≤ n → StrLaws.replL (tl y.nm) z (l ++ [32]) = StrLaws.replL (tl y.nm) z l ++ [32] := by
  have hne : tl y.nm ≠ [] := by cases y <;> decide +kernel
  intro n
  induction n with
  | zero =>
    intro l hl
    have : l = [] := List.eq_nil_of_length_eq_zero (by omega)
    subst this
    show StrLaws.replL _ _ [32] = _
    rw [repl_sep y z [] (by decide : 32 < 97), StrLaws.replL_nil]; rfl
  | succ n ih =>
    intro l hl
    cases l with
    | nil =>
      show StrLaws.replL _ _ [32] = _
      rw [repl_sep y z [] (by decide : 32 < 97), StrLaws.replL_nil]; rfl
    | cons c r =>
      have he : ((c :: r ++ [32]).take (tl y.nm).length = tl y.nm) ↔ ((c :: r).take (tl y.nm).length = tl y.nm) := by
        by_cases q : (tl y.nm).length ≤ (c :: r).length
        · rw [List.take_append_of_le_length q]
        · constructor
          · intro h
            have hm : 32 ∈ tl y.nm := by
              rw [← h, List.take_of_length_le (by rw [List.length_append, List.length_singleton]; omega)]
              simp
            have := nm_big y _ hm
            omega
          · intro h
            have := congrArg List.length h
            rw [List.length_take] at this
            omega
      by_cases h : (c :: r).take (tl y.nm).length = tl y.nm
      · have hl2 : (tl y.nm).length ≤ (c :: r).length := by
          have := congrArg List.length h
          rw [List.length_take] at this
          omega
        have hp : 1 ≤ (tl y.nm).length := by
          cases q : tl y.nm with
          | nil => exact (hne q).elim
          | cons a b => simp
        rw [List.cons_append, StrLaws.replL_hit hne (show (c :: (r ++ [32])).take (tl y.nm).length = tl y.nm from he.2 h), StrLaws.replL_hit hne h, ← List.cons_append, List.drop_append_of_le_length hl2, ih _ (by rw [List.length_drop]; simp only [List.length_cons] at hl ⊢; omega), List.append_assoc]
      · rw [List.cons_append, StrLaws.replL_miss (show ¬ (c :: (r ++ [32])).take (tl y.nm).length = tl y.nm from fun q => h (he.1 q)), StrLaws.replL_miss h, ih r (by simpa using hl)]; rfl
end K14
set_option Elab.async false
set_option linter.all false
set_option maxRecDepth 100000
namespace K14
open PySem PySem.Spec L2 TL AC
theorem sepL_small (P : Pl) (i : Nat) : ∀ c ∈ sepL P i, c < 97 := by
  unfold sepL
  intro c h
  split at h
  · rw [List.mem_singleton.1 h]; decide
  · rcases List.mem_append.1 h with h | h
    · rw [List.eq_of_mem_replicate h]; decide
    · rw [List.mem_singleton.1 h]; decide
theorem repl_cells (P : Pl) (y : Kd) (z : List Nat) : ∀ l : List Nat, StrLaws.replL (tl y.nm) z (l.flatMap (cellL P)) = l.flatMap fun i => (if knd P i = y then z else tl (knd P i).nm) ++ sepL P i
  | [] => StrLaws.replL_nil
  | i :: l => by
    rw [List.flatMap_cons, List.flatMap_cons]
    show StrLaws.replL _ z (tl (knd P i).nm ++ sepL P i ++ _) = _
    rw [List.append_assoc, repl_nm, repl_seps y z _ _ (sepL_small P i), repl_cells P y z l, List.append_assoc]
theorem cells_lens (P : Pl) (y : Kd) : ∀ l : List Nat, (l.flatMap fun i => (if knd P i = y then [0] else tl (knd P i).nm) ++ sepL P i).length = (l.flatMap fun i => (if knd P i = y then [] else tl (knd P i).nm) ++ sepL P i).length + l.countP fun i => decide (knd P i = y)
  | [] => rfl
  | i :: l => by
    rw [List.flatMap_cons, List.flatMap_cons, List.length_append, List.length_append, cells_lens P y l, List.countP_cons, List.length_append, List.length_append]
    by_cases h : knd P i = y
    · rw [if_pos h, if_pos h, if_pos (decide_eq_true h), List.length_singleton, List.length_nil]; omega
    · rw [if_neg h, if_neg h, if_neg (by simpa using h)]; omega
theorem count_nm {P : Pl} (w : WF P) (y : Kd) : Txt.count (plT P) y.nm = (((List.range P.length).countP fun i => decide (knd P i = y) : Nat) : Int) := by
  have hy : 1 ≤ y.nm.length := by cases y <;> decide +kernel
  rw [count_len hy]
  have e (z : List Nat) : StrLaws.replL (tl y.nm) z (cells P 0 P.length) = StrLaws.replL (tl y.nm) z (tl (plT P)) ++ [32] := by
    rw [whole_text w, repl_last y z _ _ (Nat.le_refl _)]
  have e2 (z : List Nat) : StrLaws.replL (tl y.nm) z (cells P 0 P.length) = (List.range P.length).flatMap fun i => (if knd P i = y then z else tl (knd P i).nm) ++ sepL P i := by
    unfold cells
    rw [repl_cells, Nat.sub_zero, List.range_eq_range']
  have a0 := congrArg List.length ((e [0]).symm.trans (e2 [0]))
  have a1 := congrArg List.length ((e []).symm.trans (e2 []))
  rw [cells_lens, ← a1, List.length_append, List.length_append] at a0
  omega
theorem kinds_all (P : Pl) : ∀ l : List Nat, (l.countP fun i => decide (knd P i = Kd.one)) + (l.countP fun i => decide (knd P i = Kd.tab)) + (l.countP fun i => decide (knd P i = Kd.step)) = l.length
  | [] => rfl
  | i :: l => by
    have ih := kinds_all P l
    rw [List.countP_cons, List.countP_cons, List.countP_cons, List.length_cons]
    cases knd P i <;> simp <;> omega
theorem grp_up {P : Pl} (w : WF P) {i : Nat} (hi : i < P.length) : grp P i ≠ [] ↔ dep P i < dep P (i + 1) := by
  rw [grp_kd hi]
  constructor
  · intro h
    by_cases c : dep P (i + 1) ≤ dep P i
    · exact (h (kd_stop (Nat.lt_succ_self i) c)).elim
    · omega
  · intro h
    have hn : i + 1 < P.length := by
      by_cases z : i + 1 < P.length
      · exact z
      · rw [dep_out (by omega : P.length ≤ i + 1)] at h; omega
    have hd1 : dep P (i + 1) = dep P i + 1 := by have := (w.up i hn).2; omega
    obtain ⟨e', he'⟩ := endOf_ex (P := P) hn
    rw [kd_go (Nat.lt_succ_self i) hn hd1 (fun i a b => by omega) he']
    simp
theorem nm_cnt (k : Kd) {c : Nat} (h : c < 97) : (tl k.nm).count c = 0 := List.count_eq_zero.2 fun m => by have := nm_big k c m; omega
theorem cell_cnt (P : Pl) (i : Nat) {c : Nat} (h : c < 97) : (cellL P i).count c = (sepL P i).count c := by
  unfold cellL
  rw [List.count_append, nm_cnt _ h, Nat.zero_add]
theorem cells_next (P : Pl) (n : Nat) : cells P 0 (n + 1) = cells P 0 n ++ cellL P n := by
  rw [cells_cut (Nat.zero_le n) (Nat.le_succ n), cells_one]
theorem sep_up {P : Pl} {i : Nat} (h : dep P i < dep P (i + 1)) : sepL P i = [40] := if_pos h
theorem sep_dn {P : Pl} {i : Nat} (h : ¬ dep P i < dep P (i + 1)) : sepL P i = List.replicate (dep P i - dep P (i + 1)) 41 ++ [32] := if_neg h
theorem ups (P : Pl) : ∀ n, (cells P 0 n).count 40 = ((List.range n).filter fun i => decide (dep P i < dep P (i + 1))).length
  | 0 => rfl
  | n + 1 => by
    rw [cells_next, List.count_append, ups P n, cell_cnt P n (by decide), List.range_succ, List.filter_append, List.length_append, List.filter_cons, List.filter_nil]
    by_cases h : dep P n < dep P (n + 1)
    · rw [sep_up h, decide_eq_true h]; rfl
    · rw [sep_dn h, decide_eq_false h, List.count_append, List.count_replicate]; rfl
theorem downs {P : Pl} (w : WF P) : ∀ n, n ≤ P.length → (cells P 0 n).count 41 + dep P n = (cells P 0 n).count 40
  | 0, _ => by rw [w.z]; rfl
  | n + 1, h => by
    have ih := downs w n (by omega)
    rw [cells_next, List.count_append, List.count_append, cell_cnt P n (by decide), cell_cnt P n (by decide)]
    by_cases u : dep P n < dep P (n + 1)
    · have hn : n + 1 < P.length := by
        by_cases z : n + 1 < P.length
        · exact z
        · rw [dep_out (by omega : P.length ≤ n + 1)] at u; omega
      have := (w.up n hn).2
      rw [sep_up u, show List.count 41 [40] = 0 from rfl, show List.count 40 [40] = 1 from rfl]
      omega
    · rw [sep_dn u, List.count_append, List.count_append, List.count_replicate, List.count_replicate, show List.count 41 [32] = 0 from rfl, show List.count 40 [32] = 0 from rfl, if_pos (by rfl), if_neg (by decide)]
      omega
theorem spaces {P : Pl} : ∀ n, (cells P 0 n).count 32 + (cells P 0 n).count 40 = n
  | 0 => rfl
  | n + 1 => by
    have ih := spaces (P := P) n
    rw [cells_next, List.count_append, List.count_append, cell_cnt P n (by decide), cell_cnt P n (by decide)]
    by_cases u : dep P n < dep P (n + 1)
    · rw [sep_up u, show List.count 32 [40] = 0 from rfl, show List.count 40 [40] = 1 from rfl]
      omega
    · rw [sep_dn u, List.count_append, List.count_append, List.count_replicate, List.count_replicate, show List.count 32 [32] = 1 from rfl, show List.count 40 [32] = 0 from rfl, if_neg (by decide), if_neg (by decide)]
      omega
theorem ns_ups {P : Pl} (w : WF P) : ns P = (List.range P.length).filter fun i => decide (dep P i < dep P (i + 1)) := by
  unfold ns
  refine List.filter_congr fun i hi => ?_
  rw [List.mem_range] at hi
  have g := grp_up w hi
  unfold hasG
  cases q : grp P i with
  | nil =>
    rw [q] at g
    rw [decide_eq_false fun h => g.2 h rfl]; rfl
  | cons a b =>
    rw [q] at g
    rw [decide_eq_true (g.1 (by simp))]; rfl
theorem count_open {P : Pl} (w : WF P) : Txt.count (plT P) (Str.ofString "(") = (((ns P).length : Nat) : Int) := by
  rw [count_one tl_op, ns_ups w, ← ups, whole_text w, List.count_append]; rfl
theorem count_close {P : Pl} (w : WF P) : Txt.count (plT P) (Str.ofString ")") = (((ns P).length : Nat) : Int) := by
  have d := downs w P.length (Nat.le_refl _)
  rw [count_one tl_cl, ns_ups w, ← ups]
  rw [dep_out (Nat.le_refl _)] at d
  rw [← d, whole_text w, List.count_append]; rfl
theorem count_space {P : Pl} (w : WF P) : Txt.count (plT P) (Str.ofString " ") + (((ns P).length : Nat) : Int) = (P.length : Int) - 1 := by
  have d := spaces (P := P) P.length
  rw [count_one tl_sp, ns_ups w, ← ups]
  have e : (cells P 0 P.length).count 32 = (tl (plT P)).count 32 + 1 := by
    rw [whole_text w, List.count_append]; rfl
  omega
end K14
set_option Elab.async false
set_option linter.all false
set_option maxRecDepth 100000
namespace K14
open PySem PySem.Spec L2 TL AC
theorem setting_amongG {P : Pl} {xs : List Nat} {j : Nat} (hj : j < 100) {c : List Nat} (cl : c.length ≤ 41) (cm : ∀ s ∈ c, s < 100) {v : Nat}
    (hh : (c.filter (fun s => decide (pc j s ∈ pcs P xs)) ++ c)[0]? = some v) : M_setting_among [.list ((pcs P xs).map .str), .int (j : Int), .list (encN c)] = some (.int (v : Int)) := by
  have e1 : lcG (aNm 4) (fB (f2 inD (fJoined (jFmt (fVar 1) (jVal (fC (.str ":")) (jFmt (fVar 4) jNil)))) (fVar 0))) E_setting_among_1 (encN c) [.sh (.list ((pcs P xs).map .str)), .sh (.int (j : Int)), .sh (.list (encN c)), .un, .un] = some (encN (c.filter fun s => decide (pc j s ∈ pcs P xs))) := by
    refine lc_list (F := fun s => .int (s : Int)) c fun s hs => ?_
    refine ⟨[.sh (.list ((pcs P xs).map .str)), .sh (.int (j : Int)), .sh (.list (encN c)), .un, .sh (.int (s : Int))], rfl, ?_, fun _ => rfl⟩
    have h1 := joined_pc (e := [.sh (.list ((pcs P xs).map .str)), .sh (.int (j : Int)), .sh (.list (encN c)), .un, .sh (.int (s : Int))]) (f := fVar 1) (g := fVar 4) (j := j) (x := s) rfl rfl hj (cm s hs)
    have h2 := inD_strs (pc j s) (pcs P xs)
    generalize fJoined (jFmt (fVar 1) (jVal (fC (.str ":")) (jFmt (fVar 4) jNil))) = J at *
    generalize (pcs P xs).map PyData.str = ps at *
    generalize encN c = ec at *
    simp [TL.gSeq, TL.gIf, TL.gSet, TL.gOwn, TL.gRet, TL.gRetF, TL.gRetO, TL.gNx, TL.gNo, TL.gBk, TL.gCt, TL.gAsg, TL.fVar, TL.fC, TL.f2, TL.f1, TL.fCons, TL.fNil, TL.fTup, TL.fLst, TL.fCall, TL.fCallF, TL.fTold, TL.fIf, TL.fAnd, TL.fOr, TL.fNot, TL.fMapD, TL.fB, TL.bOr, TL.bAnd, TL.bNot, TL.bYes, TL.fCh, TL.iSeq, TL.iRg1, TL.iRg2, TL.iEn, TL.iZp, TL.aNm, TL.aTup, TL.aCons, TL.aNil, TL.fSl, TL.pSome, TL.pNo, TL.asI, TL.asN, TL.asB, TL.ent, TL.mV, TL.mF, TL.outV, TL.outF, TL.tyNe, TL.tyEq, TL.tyN, TL.lenD, TL.addD_int, TL.subD_int, TL.ltD_int, TL.leD_int, TL.gtD_int, TL.geD_int, TL.negD_int, TL.eqD_int, TL.neD_int, Function.comp_apply, TL.pur, TL.e2, TL.eTold, TL.eLst, TL.eCons, TL.eNil, TL.eTup, TL.eCall, TL.eCallF, TL.eB, TL.eNot, TL.eOr, TL.eAnd, TL.eIf, TL.eFrz, TL.fFrz, TL.frzE, TL.mgE, TL.gPar, TL.vT, TL.vF, TL.vNil, TL.stE, TL.gSetE, TL.gOwnE, TL.gIfE, TL.gRetE, TL.gRetFE, TL.gAppE, TL.gPutE, TL.gPut, TL.gApp, TL.gAsgE, TL.gDropE, TL.ownE, TL.fIxO, TL.eCallG, TL.eCallGF, TL.agSlot, TL.agVal, TL.agTmp, TL.agNil, TL.okAgs, TL.okSlots, TL.toSV, TL.backE, TL.isOw, TL.apart, TL.mE, TL.mEF, TL.outE, TL.outEF, TL.endE, TL.parE, TL.kpOk, List.range, List.range.loop, TL.gDict0, TL.gDPut, TL.fGetO, TL.odE, TL.keyD, TL.gApp2, TL.ooE, TL.gFrzO, TL.frzOE, TL.fLcO, TL.gOwnO, TL.fStar, TL.fCallK, TL.fCallFK, TL.permL, TL.eLc, TL.gAll, TL.gAllE, TL.fSlO, TL.fFrzL, TL.eFrzL, TL.fT, TL.truD, TL.isNN, TL.gExt, TL.asL, TL.gOoL, TL.allF, TL.fFrzO, TL.bFrzO, TL.gForApp, TL.fStp, TL.gPop, TL.divmodD, TL.fLrg, TL.eSlTo, TL.flatD, TL.bFrz, TL.gFrz, TL.fFrzL, TL.gRevO, TL.gClear, TL.gPopAt, TL.gIns, TL.ePop, TL.gAug, TL.gForE, TL.jSeq, TL.jRg1, TL.jRg2, TL.jEn, TL.iRg3, TL.iRvR, TL.vS, TL.fIxOd, TL.fGetO, TL.fDin, TL.fDinN, TL.odE, TL.gFrzD, TL.frzDE, TL.fKeys, TL.fVals, TL.fPairs, TL.f3, h1, h2]
  have fl : ((c.filter fun s => decide (pc j s ∈ pcs P xs))).length ≤ 41 := Nat.le_trans (List.length_filter_le _ _) (by omega)
  have e2 : addD (.list (encN (c.filter fun s => decide (pc j s ∈ pcs P xs)))) (.list (encN c)) = some (.list (encN ((c.filter fun s => decide (pc j s ∈ pcs P xs)) ++ c))) := by
    rw [addD_list _ _ (by rw [encN_len, encN_len]; show _ ≤ 16777216; omega)]
    unfold encN; rw [List.map_append]
  have e3 : ixD (.list (encN ((c.filter fun s => decide (pc j s ∈ pcs P xs)) ++ c))) (.int 0) = some (.int (v : Int)) := atI_nat (j := 0) (by unfold encN; rw [List.getElem?_map, hh]; rfl)
  have lz : (encN c).length ≤ LN := by rw [encN_len]; show _ ≤ 16777216; omega
  generalize encN ((c.filter fun s => decide (pc j s ∈ pcs P xs)) ++ c) = e12 at *
  generalize encN (c.filter fun s => decide (pc j s ∈ pcs P xs)) = ef at *
  generalize (pcs P xs).map PyData.str = ps at *
  generalize encN c = ec at *
  generalize hT : fB (f2 inD (fJoined (jFmt (fVar 1) (jVal (fC (.str ":")) (jFmt (fVar 4) jNil)))) (fVar 0)) = T at *
  have hG : G_setting_among [.sh (.list ps), .sh (.int (j : Int)), .sh (.list ec), .un, .un] = some (.rt (.int (v : Int)) [.sh (.list ps), .sh (.int (j : Int)), .sh (.list ec), .ow ef, .un]) := by
    unfold G_setting_among
    rw [hT]
    refine (gSeq_nx (e' := [.sh (.list ps), .sh (.int (j : Int)), .sh (.list ec), .ow ef, .un]) ?_).trans ?_
    · simp [TL.gSeq, TL.gIf, TL.gSet, TL.gOwn, TL.gRet, TL.gRetF, TL.gRetO, TL.gNx, TL.gNo, TL.gBk, TL.gCt, TL.gAsg, TL.fVar, TL.fC, TL.f2, TL.f1, TL.fCons, TL.fNil, TL.fTup, TL.fLst, TL.fCall, TL.fCallF, TL.fTold, TL.fIf, TL.fAnd, TL.fOr, TL.fNot, TL.fMapD, TL.fB, TL.bOr, TL.bAnd, TL.bNot, TL.bYes, TL.fCh, TL.iSeq, TL.iRg1, TL.iRg2, TL.iEn, TL.iZp, TL.aNm, TL.aTup, TL.aCons, TL.aNil, TL.fSl, TL.pSome, TL.pNo, TL.asI, TL.asN, TL.asB, TL.ent, TL.mV, TL.mF, TL.outV, TL.outF, TL.tyNe, TL.tyEq, TL.tyN, TL.lenD, TL.addD_int, TL.subD_int, TL.ltD_int, TL.leD_int, TL.gtD_int, TL.geD_int, TL.negD_int, TL.eqD_int, TL.neD_int, Function.comp_apply, TL.pur, TL.e2, TL.eTold, TL.eLst, TL.eCons, TL.eNil, TL.eTup, TL.eCall, TL.eCallF, TL.eB, TL.eNot, TL.eOr, TL.eAnd, TL.eIf, TL.eFrz, TL.fFrz, TL.frzE, TL.mgE, TL.gPar, TL.vT, TL.vF, TL.vNil, TL.stE, TL.gSetE, TL.gOwnE, TL.gIfE, TL.gRetE, TL.gRetFE, TL.gAppE, TL.gPutE, TL.gPut, TL.gApp, TL.gAsgE, TL.gDropE, TL.ownE, TL.fIxO, TL.eCallG, TL.eCallGF, TL.agSlot, TL.agVal, TL.agTmp, TL.agNil, TL.okAgs, TL.okSlots, TL.toSV, TL.backE, TL.isOw, TL.apart, TL.mE, TL.mEF, TL.outE, TL.outEF, TL.endE, TL.parE, TL.kpOk, List.range, List.range.loop, TL.gDict0, TL.gDPut, TL.fGetO, TL.odE, TL.keyD, TL.gApp2, TL.ooE, TL.gFrzO, TL.frzOE, TL.fLcO, TL.gOwnO, TL.fStar, TL.fCallK, TL.fCallFK, TL.permL, TL.eLc, TL.gAll, TL.gAllE, TL.fSlO, TL.fFrzL, TL.eFrzL, TL.fT, TL.truD, TL.isNN, TL.gExt, TL.asL, TL.gOoL, TL.allF, TL.fFrzO, TL.bFrzO, TL.gForApp, TL.fStp, TL.gPop, TL.divmodD, TL.fLrg, TL.eSlTo, TL.flatD, TL.bFrz, TL.gFrz, TL.fFrzL, TL.gRevO, TL.gClear, TL.gPopAt, TL.gIns, TL.ePop, TL.gAug, TL.gForE, TL.jSeq, TL.jRg1, TL.jRg2, TL.jEn, TL.iRg3, TL.iRvR, TL.vS, TL.fIxOd, TL.fGetO, TL.fDin, TL.fDinN, TL.odE, TL.gFrzD, TL.frzDE, TL.fKeys, TL.fVals, TL.fPairs, TL.f3, fLc, lz, wipeE, e1]
    · simp [TL.gSeq, TL.gIf, TL.gSet, TL.gOwn, TL.gRet, TL.gRetF, TL.gRetO, TL.gNx, TL.gNo, TL.gBk, TL.gCt, TL.gAsg, TL.fVar, TL.fC, TL.f2, TL.f1, TL.fCons, TL.fNil, TL.fTup, TL.fLst, TL.fCall, TL.fCallF, TL.fTold, TL.fIf, TL.fAnd, TL.fOr, TL.fNot, TL.fMapD, TL.fB, TL.bOr, TL.bAnd, TL.bNot, TL.bYes, TL.fCh, TL.iSeq, TL.iRg1, TL.iRg2, TL.iEn, TL.iZp, TL.aNm, TL.aTup, TL.aCons, TL.aNil, TL.fSl, TL.pSome, TL.pNo, TL.asI, TL.asN, TL.asB, TL.ent, TL.mV, TL.mF, TL.outV, TL.outF, TL.tyNe, TL.tyEq, TL.tyN, TL.lenD, TL.addD_int, TL.subD_int, TL.ltD_int, TL.leD_int, TL.gtD_int, TL.geD_int, TL.negD_int, TL.eqD_int, TL.neD_int, Function.comp_apply, TL.pur, TL.e2, TL.eTold, TL.eLst, TL.eCons, TL.eNil, TL.eTup, TL.eCall, TL.eCallF, TL.eB, TL.eNot, TL.eOr, TL.eAnd, TL.eIf, TL.eFrz, TL.fFrz, TL.frzE, TL.mgE, TL.gPar, TL.vT, TL.vF, TL.vNil, TL.stE, TL.gSetE, TL.gOwnE, TL.gIfE, TL.gRetE, TL.gRetFE, TL.gAppE, TL.gPutE, TL.gPut, TL.gApp, TL.gAsgE, TL.gDropE, TL.ownE, TL.fIxO, TL.eCallG, TL.eCallGF, TL.agSlot, TL.agVal, TL.agTmp, TL.agNil, TL.okAgs, TL.okSlots, TL.toSV, TL.backE, TL.isOw, TL.apart, TL.mE, TL.mEF, TL.outE, TL.outEF, TL.endE, TL.parE, TL.kpOk, List.range, List.range.loop, TL.gDict0, TL.gDPut, TL.fGetO, TL.odE, TL.keyD, TL.gApp2, TL.ooE, TL.gFrzO, TL.frzOE, TL.fLcO, TL.gOwnO, TL.fStar, TL.fCallK, TL.fCallFK, TL.permL, TL.eLc, TL.gAll, TL.gAllE, TL.fSlO, TL.fFrzL, TL.eFrzL, TL.fT, TL.truD, TL.isNN, TL.gExt, TL.asL, TL.gOoL, TL.allF, TL.fFrzO, TL.bFrzO, TL.gForApp, TL.fStp, TL.gPop, TL.divmodD, TL.fLrg, TL.eSlTo, TL.flatD, TL.bFrz, TL.gFrz, TL.fFrzL, TL.gRevO, TL.gClear, TL.gPopAt, TL.gIns, TL.ePop, TL.gAug, TL.gForE, TL.jSeq, TL.jRg1, TL.jRg2, TL.jEn, TL.iRg3, TL.iRvR, TL.vS, TL.fIxOd, TL.fGetO, TL.fDin, TL.fDinN, TL.odE, TL.gFrzD, TL.frzDE, TL.fKeys, TL.fVals, TL.fPairs, TL.f3, e2, e3]
  unfold M_setting_among
  generalize G_setting_among = GG at *
  simp [TL.gSeq, TL.gIf, TL.gSet, TL.gOwn, TL.gRet, TL.gRetF, TL.gRetO, TL.gNx, TL.gNo, TL.gBk, TL.gCt, TL.gAsg, TL.fVar, TL.fC, TL.f2, TL.f1, TL.fCons, TL.fNil, TL.fTup, TL.fLst, TL.fCall, TL.fCallF, TL.fTold, TL.fIf, TL.fAnd, TL.fOr, TL.fNot, TL.fMapD, TL.fB, TL.bOr, TL.bAnd, TL.bNot, TL.bYes, TL.fCh, TL.iSeq, TL.iRg1, TL.iRg2, TL.iEn, TL.iZp, TL.aNm, TL.aTup, TL.aCons, TL.aNil, TL.fSl, TL.pSome, TL.pNo, TL.asI, TL.asN, TL.asB, TL.ent, TL.mV, TL.mF, TL.outV, TL.outF, TL.tyNe, TL.tyEq, TL.tyN, TL.lenD, TL.addD_int, TL.subD_int, TL.ltD_int, TL.leD_int, TL.gtD_int, TL.geD_int, TL.negD_int, TL.eqD_int, TL.neD_int, Function.comp_apply, TL.pur, TL.e2, TL.eTold, TL.eLst, TL.eCons, TL.eNil, TL.eTup, TL.eCall, TL.eCallF, TL.eB, TL.eNot, TL.eOr, TL.eAnd, TL.eIf, TL.eFrz, TL.fFrz, TL.frzE, TL.mgE, TL.gPar, TL.vT, TL.vF, TL.vNil, TL.stE, TL.gSetE, TL.gOwnE, TL.gIfE, TL.gRetE, TL.gRetFE, TL.gAppE, TL.gPutE, TL.gPut, TL.gApp, TL.gAsgE, TL.gDropE, TL.ownE, TL.fIxO, TL.eCallG, TL.eCallGF, TL.agSlot, TL.agVal, TL.agTmp, TL.agNil, TL.okAgs, TL.okSlots, TL.toSV, TL.backE, TL.isOw, TL.apart, TL.mE, TL.mEF, TL.outE, TL.outEF, TL.endE, TL.parE, TL.kpOk, List.range, List.range.loop, hG]
theorem ne_strs (a b : Str) : neD (.str a) (.str b) = some (.bool (!decide (a = b))) := by
  have : eqOk (PyData.str a) (.str b) = true := rfl
  unfold neD
  rw [if_pos this, eqv_strs]
theorem eq_strs (a b : Str) : eqD (.str a) (.str b) = some (.bool (decide (a = b))) := by
  have : eqOk (PyData.str a) (.str b) = true := rfl
  unfold eqD
  rw [if_pos this, eqv_strs]
theorem xSeq_nx {g : GF} {h : GX} {e e' : Ev} (h1 : g e = some (.nx e')) : xSeq g h e = h e' := by
  unfold xSeq; rw [h1]; rfl
theorem parse_with {P T : Pl} (w : WF T) {xs ys : List Nat} (hs : (stT P xs).length ≤ 1000) (hy : IsSt T ys)
    (hset : ∀ j (hj : j < T.length), M_setting_among [.list ((pcs P xs).map .str), .int (j : Int), .list (encN (chs (T[j]).2 (grp T j)))] = some (.int ((ys.getD j 0 : Nat) : Int))) :
    M_parse_state [encP T, .str (stT P xs)] = some (if stT T ys = stT P xs then some (encN ys) else none) := by
  have le := w.le
  have e1 := check_plan w
  have e2 := all_choices w
  have e3 := written_state w hy
  have e4 : Txt.words (stT P xs) = pcs P xs := words_join _ fun y hy => by
    obtain ⟨j, _, rfl⟩ := List.mem_map.1 hy
    exact pc_word _ _
  have e5 : encN ys = (List.range T.length).map fun j => PyData.int ((ys.getD j 0 : Nat) : Int) := by
    have hl : ys.length = T.length := hy.len
    apply List.ext_getElem?
    intro k
    by_cases hk : k < T.length
    · obtain ⟨_, _, a3⟩ := st_small w hy hk
      unfold encN
      rw [List.getElem?_map, a3, List.getElem?_map, List.getElem?_range hk]; rfl
    · rw [List.getElem?_eq_none (by rw [encN_len]; omega), List.getElem?_eq_none (by simp; omega)]
  have e6 : enumD ((chos T).map fun c => .list (encN c)) = (List.range T.length).map fun (i : Nat) => PyData.tuple [.int (i : Int), .list (encN ((chos T).getD i []))] := by
    apply List.ext_getElem?
    intro k
    by_cases hk : k < T.length
    · have : (chos T)[k]? = some ((chos T).getD k []) := by rw [List.getD_eq_getElem?_getD, chos_get hk]; rfl
      unfold enumD
      rw [List.getElem?_map, List.getElem?_zipIdx, List.getElem?_map, this, List.getElem?_map, List.getElem?_range hk]
      show some (PyData.tuple [.int ((0 + k : Nat) : Int), .list (encN ((chos T).getD k []))]) = some (PyData.tuple [.int (k : Int), .list (encN ((chos T).getD k []))])
      rw [Nat.zero_add]
    · rw [List.getElem?_eq_none (by rw [enumD_len, List.length_map, chos_len]; omega), List.getElem?_eq_none (by simp; omega)]
  have e7 : lcG (aTup 2 (aCons (aNm 4) (aCons (aNm 5) aNil))) bYes E_parse_state_1 (enumD ((chos T).map fun c => .list (encN c))) [.sh (encP T), .sh (.str (stT P xs)), .sh (.list ((pcs P xs).map .str)), .un, .un, .un] = some (encN ys) := by
    rw [e6, e5]
    have := lc_list (A := aTup 2 (aCons (aNm 4) (aCons (aNm 5) aNil))) (t := bYes) (f := E_parse_state_1) (e := [.sh (encP T), .sh (.str (stT P xs)), .sh (.list ((pcs P xs).map .str)), .un, .un, .un]) (H := fun (i : Nat) => PyData.tuple [.int (i : Int), .list (encN ((chos T).getD i []))]) (F := fun j => PyData.int ((ys.getD j 0 : Nat) : Int)) (T := fun _ => true) (List.range T.length) fun k hk => ?_
    · rw [this]
      congr 2
      exact List.filter_eq_self.2 fun _ _ => rfl
    · rw [List.mem_range] at hk
      refine ⟨[.sh (encP T), .sh (.str (stT P xs)), .sh (.list ((pcs P xs).map .str)), .un, .sh (.int (k : Int)), .sh (.list (encN ((chos T).getD k [])))], rfl, rfl, fun _ => ?_⟩
      have a1 := hset k hk
      have : (chos T).getD k [] = chs (T[k]).2 (grp T k) := by rw [List.getD_eq_getElem?_getD, chos_get hk]; rfl
      rw [this]
      generalize encN (chs (T[k]).2 (grp T k)) = ec at *
      generalize (pcs P xs).map PyData.str = ps at *
      generalize encP T = pl at *
      simp [TL.gSeq, TL.gIf, TL.gSet, TL.gOwn, TL.gRet, TL.gRetF, TL.gRetO, TL.gNx, TL.gNo, TL.gBk, TL.gCt, TL.gAsg, TL.fVar, TL.fC, TL.f2, TL.f1, TL.fCons, TL.fNil, TL.fTup, TL.fLst, TL.fCall, TL.fCallF, TL.fTold, TL.fIf, TL.fAnd, TL.fOr, TL.fNot, TL.fMapD, TL.fB, TL.bOr, TL.bAnd, TL.bNot, TL.bYes, TL.fCh, TL.iSeq, TL.iRg1, TL.iRg2, TL.iEn, TL.iZp, TL.aNm, TL.aTup, TL.aCons, TL.aNil, TL.fSl, TL.pSome, TL.pNo, TL.asI, TL.asN, TL.asB, TL.ent, TL.mV, TL.mF, TL.outV, TL.outF, TL.tyNe, TL.tyEq, TL.tyN, TL.lenD, TL.addD_int, TL.subD_int, TL.ltD_int, TL.leD_int, TL.gtD_int, TL.geD_int, TL.negD_int, TL.eqD_int, TL.neD_int, Function.comp_apply, TL.pur, TL.e2, TL.eTold, TL.eLst, TL.eCons, TL.eNil, TL.eTup, TL.eCall, TL.eCallF, TL.eB, TL.eNot, TL.eOr, TL.eAnd, TL.eIf, TL.eFrz, TL.fFrz, TL.frzE, TL.mgE, TL.gPar, TL.vT, TL.vF, TL.vNil, TL.stE, TL.gSetE, TL.gOwnE, TL.gIfE, TL.gRetE, TL.gRetFE, TL.gAppE, TL.gPutE, TL.gPut, TL.gApp, TL.gAsgE, TL.gDropE, TL.ownE, TL.fIxO, TL.eCallG, TL.eCallGF, TL.agSlot, TL.agVal, TL.agTmp, TL.agNil, TL.okAgs, TL.okSlots, TL.toSV, TL.backE, TL.isOw, TL.apart, TL.mE, TL.mEF, TL.outE, TL.outEF, TL.endE, TL.parE, TL.kpOk, List.range, List.range.loop, TL.gDict0, TL.gDPut, TL.fGetO, TL.odE, TL.keyD, TL.gApp2, TL.ooE, TL.gFrzO, TL.frzOE, TL.fLcO, TL.gOwnO, TL.fStar, TL.fCallK, TL.fCallFK, TL.permL, TL.eLc, TL.gAll, TL.gAllE, TL.fSlO, TL.fFrzL, TL.eFrzL, TL.fT, TL.truD, TL.isNN, TL.gExt, TL.asL, TL.gOoL, TL.allF, TL.fFrzO, TL.bFrzO, TL.gForApp, TL.fStp, TL.gPop, TL.divmodD, TL.fLrg, TL.eSlTo, TL.flatD, TL.bFrz, TL.gFrz, TL.fFrzL, TL.gRevO, TL.gClear, TL.gPopAt, TL.gIns, TL.ePop, TL.gAug, TL.gForE, TL.jSeq, TL.jRg1, TL.jRg2, TL.jEn, TL.iRg3, TL.iRvR, TL.vS, TL.fIxOd, TL.fGetO, TL.fDin, TL.fDinN, TL.odE, TL.gFrzD, TL.frzDE, TL.fKeys, TL.fVals, TL.fPairs, TL.f3, E_parse_state_1, a1]
  have lz : (enumD ((chos T).map fun c => .list (encN c))).length ≤ LN := by
    rw [enumD_len, List.length_map, chos_len]; show _ ≤ 16777216; omega
  have lt : (stT P xs).length + 2 ≤ LN := by show _ ≤ 16777216; omega
  have n1 := ne_strs (stT T ys) (stT P xs)
  have t1 : isT "str" (.str (stT P xs)) = true := rfl
  generalize hcc : (chos T).map (fun c => PyData.list (encN c)) = cc at *
  generalize hen : enumD cc = en at *
  generalize hps : (pcs P xs).map PyData.str = ps at *
  rw [← e4] at hps
  generalize encP T = pl at *
  generalize encN ys = es at *
  generalize stT P xs = tx at *
  generalize stT T ys = ty at *
  have c1 : M_check_string [.str tx] = some .none := by simp [TL.gSeq, TL.gIf, TL.gSet, TL.gOwn, TL.gRet, TL.gRetF, TL.gRetO, TL.gNx, TL.gNo, TL.gBk, TL.gCt, TL.gAsg, TL.fVar, TL.fC, TL.f2, TL.f1, TL.fCons, TL.fNil, TL.fTup, TL.fLst, TL.fCall, TL.fCallF, TL.fTold, TL.fIf, TL.fAnd, TL.fOr, TL.fNot, TL.fMapD, TL.fB, TL.bOr, TL.bAnd, TL.bNot, TL.bYes, TL.fCh, TL.iSeq, TL.iRg1, TL.iRg2, TL.iEn, TL.iZp, TL.aNm, TL.aTup, TL.aCons, TL.aNil, TL.fSl, TL.pSome, TL.pNo, TL.asI, TL.asN, TL.asB, TL.ent, TL.mV, TL.mF, TL.outV, TL.outF, TL.tyNe, TL.tyEq, TL.tyN, TL.lenD, TL.addD_int, TL.subD_int, TL.ltD_int, TL.leD_int, TL.gtD_int, TL.geD_int, TL.negD_int, TL.eqD_int, TL.neD_int, Function.comp_apply, TL.pur, TL.e2, TL.eTold, TL.eLst, TL.eCons, TL.eNil, TL.eTup, TL.eCall, TL.eCallF, TL.eB, TL.eNot, TL.eOr, TL.eAnd, TL.eIf, TL.eFrz, TL.fFrz, TL.frzE, TL.mgE, TL.gPar, TL.vT, TL.vF, TL.vNil, TL.stE, TL.gSetE, TL.gOwnE, TL.gIfE, TL.gRetE, TL.gRetFE, TL.gAppE, TL.gPutE, TL.gPut, TL.gApp, TL.gAsgE, TL.gDropE, TL.ownE, TL.fIxO, TL.eCallG, TL.eCallGF, TL.agSlot, TL.agVal, TL.agTmp, TL.agNil, TL.okAgs, TL.okSlots, TL.toSV, TL.backE, TL.isOw, TL.apart, TL.mE, TL.mEF, TL.outE, TL.outEF, TL.endE, TL.parE, TL.kpOk, List.range, List.range.loop, TL.gDict0, TL.gDPut, TL.fGetO, TL.odE, TL.keyD, TL.gApp2, TL.ooE, TL.gFrzO, TL.frzOE, TL.fLcO, TL.gOwnO, TL.fStar, TL.fCallK, TL.fCallFK, TL.permL, TL.eLc, TL.gAll, TL.gAllE, TL.fSlO, TL.fFrzL, TL.eFrzL, TL.fT, TL.truD, TL.isNN, TL.gExt, TL.asL, TL.gOoL, TL.allF, TL.fFrzO, TL.bFrzO, TL.gForApp, TL.fStp, TL.gPop, TL.divmodD, TL.fLrg, TL.eSlTo, TL.flatD, TL.bFrz, TL.gFrz, TL.fFrzL, TL.gRevO, TL.gClear, TL.gPopAt, TL.gIns, TL.ePop, TL.gAug, TL.gForE, TL.jSeq, TL.jRg1, TL.jRg2, TL.jEn, TL.iRg3, TL.iRvR, TL.vS, TL.fIxOd, TL.fGetO, TL.fDin, TL.fDinN, TL.odE, TL.gFrzD, TL.frzDE, TL.fKeys, TL.fVals, TL.fPairs, TL.f3, M_check_string, G_check_string, t1]
  have hG : G_parse_state [.sh pl, .sh (.str tx), .un, .un, .un, .un] = some (if ty = tx then some (.rf es [.sh pl, .sh (.str tx), .sh (.list ps), .ow es, .un, .un]) else none) := by
    unfold G_parse_state
    refine (xSeq_nx (e' := [.sh pl, .sh (.str tx), .un, .un, .un, .un]) (by simp [TL.gSeq, TL.gIf, TL.gSet, TL.gOwn, TL.gRet, TL.gRetF, TL.gRetO, TL.gNx, TL.gNo, TL.gBk, TL.gCt, TL.gAsg, TL.fVar, TL.fC, TL.f2, TL.f1, TL.fCons, TL.fNil, TL.fTup, TL.fLst, TL.fCall, TL.fCallF, TL.fTold, TL.fIf, TL.fAnd, TL.fOr, TL.fNot, TL.fMapD, TL.fB, TL.bOr, TL.bAnd, TL.bNot, TL.bYes, TL.fCh, TL.iSeq, TL.iRg1, TL.iRg2, TL.iEn, TL.iZp, TL.aNm, TL.aTup, TL.aCons, TL.aNil, TL.fSl, TL.pSome, TL.pNo, TL.asI, TL.asN, TL.asB, TL.ent, TL.mV, TL.mF, TL.outV, TL.outF, TL.tyNe, TL.tyEq, TL.tyN, TL.lenD, TL.addD_int, TL.subD_int, TL.ltD_int, TL.leD_int, TL.gtD_int, TL.geD_int, TL.negD_int, TL.eqD_int, TL.neD_int, Function.comp_apply, TL.pur, TL.e2, TL.eTold, TL.eLst, TL.eCons, TL.eNil, TL.eTup, TL.eCall, TL.eCallF, TL.eB, TL.eNot, TL.eOr, TL.eAnd, TL.eIf, TL.eFrz, TL.fFrz, TL.frzE, TL.mgE, TL.gPar, TL.vT, TL.vF, TL.vNil, TL.stE, TL.gSetE, TL.gOwnE, TL.gIfE, TL.gRetE, TL.gRetFE, TL.gAppE, TL.gPutE, TL.gPut, TL.gApp, TL.gAsgE, TL.gDropE, TL.ownE, TL.fIxO, TL.eCallG, TL.eCallGF, TL.agSlot, TL.agVal, TL.agTmp, TL.agNil, TL.okAgs, TL.okSlots, TL.toSV, TL.backE, TL.isOw, TL.apart, TL.mE, TL.mEF, TL.outE, TL.outEF, TL.endE, TL.parE, TL.kpOk, List.range, List.range.loop, TL.gDict0, TL.gDPut, TL.fGetO, TL.odE, TL.keyD, TL.gApp2, TL.ooE, TL.gFrzO, TL.frzOE, TL.fLcO, TL.gOwnO, TL.fStar, TL.fCallK, TL.fCallFK, TL.permL, TL.eLc, TL.gAll, TL.gAllE, TL.fSlO, TL.fFrzL, TL.eFrzL, TL.fT, TL.truD, TL.isNN, TL.gExt, TL.asL, TL.gOoL, TL.allF, TL.fFrzO, TL.bFrzO, TL.gForApp, TL.fStp, TL.gPop, TL.divmodD, TL.fLrg, TL.eSlTo, TL.flatD, TL.bFrz, TL.gFrz, TL.fFrzL, TL.gRevO, TL.gClear, TL.gPopAt, TL.gIns, TL.ePop, TL.gAug, TL.gForE, TL.jSeq, TL.jRg1, TL.jRg2, TL.jEn, TL.iRg3, TL.iRvR, TL.vS, TL.fIxOd, TL.fGetO, TL.fDin, TL.fDinN, TL.odE, TL.gFrzD, TL.frzDE, TL.fKeys, TL.fVals, TL.fPairs, TL.f3, e1])).trans ?_
    refine (xSeq_nx (e' := [.sh pl, .sh (.str tx), .un, .un, .un, .un]) (by simp [TL.gSeq, TL.gIf, TL.gSet, TL.gOwn, TL.gRet, TL.gRetF, TL.gRetO, TL.gNx, TL.gNo, TL.gBk, TL.gCt, TL.gAsg, TL.fVar, TL.fC, TL.f2, TL.f1, TL.fCons, TL.fNil, TL.fTup, TL.fLst, TL.fCall, TL.fCallF, TL.fTold, TL.fIf, TL.fAnd, TL.fOr, TL.fNot, TL.fMapD, TL.fB, TL.bOr, TL.bAnd, TL.bNot, TL.bYes, TL.fCh, TL.iSeq, TL.iRg1, TL.iRg2, TL.iEn, TL.iZp, TL.aNm, TL.aTup, TL.aCons, TL.aNil, TL.fSl, TL.pSome, TL.pNo, TL.asI, TL.asN, TL.asB, TL.ent, TL.mV, TL.mF, TL.outV, TL.outF, TL.tyNe, TL.tyEq, TL.tyN, TL.lenD, TL.addD_int, TL.subD_int, TL.ltD_int, TL.leD_int, TL.gtD_int, TL.geD_int, TL.negD_int, TL.eqD_int, TL.neD_int, Function.comp_apply, TL.pur, TL.e2, TL.eTold, TL.eLst, TL.eCons, TL.eNil, TL.eTup, TL.eCall, TL.eCallF, TL.eB, TL.eNot, TL.eOr, TL.eAnd, TL.eIf, TL.eFrz, TL.fFrz, TL.frzE, TL.mgE, TL.gPar, TL.vT, TL.vF, TL.vNil, TL.stE, TL.gSetE, TL.gOwnE, TL.gIfE, TL.gRetE, TL.gRetFE, TL.gAppE, TL.gPutE, TL.gPut, TL.gApp, TL.gAsgE, TL.gDropE, TL.ownE, TL.fIxO, TL.eCallG, TL.eCallGF, TL.agSlot, TL.agVal, TL.agTmp, TL.agNil, TL.okAgs, TL.okSlots, TL.toSV, TL.backE, TL.isOw, TL.apart, TL.mE, TL.mEF, TL.outE, TL.outEF, TL.endE, TL.parE, TL.kpOk, List.range, List.range.loop, TL.gDict0, TL.gDPut, TL.fGetO, TL.odE, TL.keyD, TL.gApp2, TL.ooE, TL.gFrzO, TL.frzOE, TL.fLcO, TL.gOwnO, TL.fStar, TL.fCallK, TL.fCallFK, TL.permL, TL.eLc, TL.gAll, TL.gAllE, TL.fSlO, TL.fFrzL, TL.eFrzL, TL.fT, TL.truD, TL.isNN, TL.gExt, TL.asL, TL.gOoL, TL.allF, TL.fFrzO, TL.bFrzO, TL.gForApp, TL.fStp, TL.gPop, TL.divmodD, TL.fLrg, TL.eSlTo, TL.flatD, TL.bFrz, TL.gFrz, TL.fFrzL, TL.gRevO, TL.gClear, TL.gPopAt, TL.gIns, TL.ePop, TL.gAug, TL.gForE, TL.jSeq, TL.jRg1, TL.jRg2, TL.jEn, TL.iRg3, TL.iRvR, TL.vS, TL.fIxOd, TL.fGetO, TL.fDin, TL.fDinN, TL.odE, TL.gFrzD, TL.frzDE, TL.fKeys, TL.fVals, TL.fPairs, TL.f3, c1])).trans ?_
    refine (xSeq_nx (e' := [.sh pl, .sh (.str tx), .sh (.list ps), .un, .un, .un]) (by simp [TL.gSeq, TL.gIf, TL.gSet, TL.gOwn, TL.gRet, TL.gRetF, TL.gRetO, TL.gNx, TL.gNo, TL.gBk, TL.gCt, TL.gAsg, TL.fVar, TL.fC, TL.f2, TL.f1, TL.fCons, TL.fNil, TL.fTup, TL.fLst, TL.fCall, TL.fCallF, TL.fTold, TL.fIf, TL.fAnd, TL.fOr, TL.fNot, TL.fMapD, TL.fB, TL.bOr, TL.bAnd, TL.bNot, TL.bYes, TL.fCh, TL.iSeq, TL.iRg1, TL.iRg2, TL.iEn, TL.iZp, TL.aNm, TL.aTup, TL.aCons, TL.aNil, TL.fSl, TL.pSome, TL.pNo, TL.asI, TL.asN, TL.asB, TL.ent, TL.mV, TL.mF, TL.outV, TL.outF, TL.tyNe, TL.tyEq, TL.tyN, TL.lenD, TL.addD_int, TL.subD_int, TL.ltD_int, TL.leD_int, TL.gtD_int, TL.geD_int, TL.negD_int, TL.eqD_int, TL.neD_int, Function.comp_apply, TL.pur, TL.e2, TL.eTold, TL.eLst, TL.eCons, TL.eNil, TL.eTup, TL.eCall, TL.eCallF, TL.eB, TL.eNot, TL.eOr, TL.eAnd, TL.eIf, TL.eFrz, TL.fFrz, TL.frzE, TL.mgE, TL.gPar, TL.vT, TL.vF, TL.vNil, TL.stE, TL.gSetE, TL.gOwnE, TL.gIfE, TL.gRetE, TL.gRetFE, TL.gAppE, TL.gPutE, TL.gPut, TL.gApp, TL.gAsgE, TL.gDropE, TL.ownE, TL.fIxO, TL.eCallG, TL.eCallGF, TL.agSlot, TL.agVal, TL.agTmp, TL.agNil, TL.okAgs, TL.okSlots, TL.toSV, TL.backE, TL.isOw, TL.apart, TL.mE, TL.mEF, TL.outE, TL.outEF, TL.endE, TL.parE, TL.kpOk, List.range, List.range.loop, TL.gDict0, TL.gDPut, TL.fGetO, TL.odE, TL.keyD, TL.gApp2, TL.ooE, TL.gFrzO, TL.frzOE, TL.fLcO, TL.gOwnO, TL.fStar, TL.fCallK, TL.fCallFK, TL.permL, TL.eLc, TL.gAll, TL.gAllE, TL.fSlO, TL.fFrzL, TL.eFrzL, TL.fT, TL.truD, TL.isNN, TL.gExt, TL.asL, TL.gOoL, TL.allF, TL.fFrzO, TL.bFrzO, TL.gForApp, TL.fStp, TL.gPop, TL.divmodD, TL.fLrg, TL.eSlTo, TL.flatD, TL.bFrz, TL.gFrz, TL.fFrzL, TL.gRevO, TL.gClear, TL.gPopAt, TL.gIns, TL.ePop, TL.gAug, TL.gForE, TL.jSeq, TL.jRg1, TL.jRg2, TL.jEn, TL.iRg3, TL.iRvR, TL.vS, TL.fIxOd, TL.fGetO, TL.fDin, TL.fDinN, TL.odE, TL.gFrzD, TL.frzDE, TL.fKeys, TL.fVals, TL.fPairs, TL.f3, fWords, lt, hps])).trans ?_
    refine (xSeq_nx (e' := [.sh pl, .sh (.str tx), .sh (.list ps), .ow es, .un, .un]) (by simp [TL.gSeq, TL.gIf, TL.gSet, TL.gOwn, TL.gRet, TL.gRetF, TL.gRetO, TL.gNx, TL.gNo, TL.gBk, TL.gCt, TL.gAsg, TL.fVar, TL.fC, TL.f2, TL.f1, TL.fCons, TL.fNil, TL.fTup, TL.fLst, TL.fCall, TL.fCallF, TL.fTold, TL.fIf, TL.fAnd, TL.fOr, TL.fNot, TL.fMapD, TL.fB, TL.bOr, TL.bAnd, TL.bNot, TL.bYes, TL.fCh, TL.iSeq, TL.iRg1, TL.iRg2, TL.iEn, TL.iZp, TL.aNm, TL.aTup, TL.aCons, TL.aNil, TL.fSl, TL.pSome, TL.pNo, TL.asI, TL.asN, TL.asB, TL.ent, TL.mV, TL.mF, TL.outV, TL.outF, TL.tyNe, TL.tyEq, TL.tyN, TL.lenD, TL.addD_int, TL.subD_int, TL.ltD_int, TL.leD_int, TL.gtD_int, TL.geD_int, TL.negD_int, TL.eqD_int, TL.neD_int, Function.comp_apply, TL.pur, TL.e2, TL.eTold, TL.eLst, TL.eCons, TL.eNil, TL.eTup, TL.eCall, TL.eCallF, TL.eB, TL.eNot, TL.eOr, TL.eAnd, TL.eIf, TL.eFrz, TL.fFrz, TL.frzE, TL.mgE, TL.gPar, TL.vT, TL.vF, TL.vNil, TL.stE, TL.gSetE, TL.gOwnE, TL.gIfE, TL.gRetE, TL.gRetFE, TL.gAppE, TL.gPutE, TL.gPut, TL.gApp, TL.gAsgE, TL.gDropE, TL.ownE, TL.fIxO, TL.eCallG, TL.eCallGF, TL.agSlot, TL.agVal, TL.agTmp, TL.agNil, TL.okAgs, TL.okSlots, TL.toSV, TL.backE, TL.isOw, TL.apart, TL.mE, TL.mEF, TL.outE, TL.outEF, TL.endE, TL.parE, TL.kpOk, List.range, List.range.loop, TL.gDict0, TL.gDPut, TL.fGetO, TL.odE, TL.keyD, TL.gApp2, TL.ooE, TL.gFrzO, TL.frzOE, TL.fLcO, TL.gOwnO, TL.fStar, TL.fCallK, TL.fCallFK, TL.permL, TL.eLc, TL.gAll, TL.gAllE, TL.fSlO, TL.fFrzL, TL.eFrzL, TL.fT, TL.truD, TL.isNN, TL.gExt, TL.asL, TL.gOoL, TL.allF, TL.fFrzO, TL.bFrzO, TL.gForApp, TL.fStp, TL.gPop, TL.divmodD, TL.fLrg, TL.eSlTo, TL.flatD, TL.bFrz, TL.gFrz, TL.fFrzL, TL.gRevO, TL.gClear, TL.gPopAt, TL.gIns, TL.ePop, TL.gAug, TL.gForE, TL.jSeq, TL.jRg1, TL.jRg2, TL.jEn, TL.iRg3, TL.iRvR, TL.vS, TL.fIxOd, TL.fGetO, TL.fDin, TL.fDinN, TL.odE, TL.gFrzD, TL.frzDE, TL.fKeys, TL.fVals, TL.fPairs, TL.f3, fLc, e2, hen, lz, wipeE, e7])).trans ?_
    have ht : fB (f2 neD (fFrz 3 (fCall (fun ds => if ds.length = 2 then M_written_state ds else none) (fCons (fVar 0) (fCons (fVar 3) fNil)))) (fVar 1)) [.sh pl, .sh (.str tx), .sh (.list ps), .ow es, .un, .un] = some (!decide (ty = tx)) := by simp [TL.gSeq, TL.gIf, TL.gSet, TL.gOwn, TL.gRet, TL.gRetF, TL.gRetO, TL.gNx, TL.gNo, TL.gBk, TL.gCt, TL.gAsg, TL.fVar, TL.fC, TL.f2, TL.f1, TL.fCons, TL.fNil, TL.fTup, TL.fLst, TL.fCall, TL.fCallF, TL.fTold, TL.fIf, TL.fAnd, TL.fOr, TL.fNot, TL.fMapD, TL.fB, TL.bOr, TL.bAnd, TL.bNot, TL.bYes, TL.fCh, TL.iSeq, TL.iRg1, TL.iRg2, TL.iEn, TL.iZp, TL.aNm, TL.aTup, TL.aCons, TL.aNil, TL.fSl, TL.pSome, TL.pNo, TL.asI, TL.asN, TL.asB, TL.ent, TL.mV, TL.mF, TL.outV, TL.outF, TL.tyNe, TL.tyEq, TL.tyN, TL.lenD, TL.addD_int, TL.subD_int, TL.ltD_int, TL.leD_int, TL.gtD_int, TL.geD_int, TL.negD_int, TL.eqD_int, TL.neD_int, Function.comp_apply, TL.pur, TL.e2, TL.eTold, TL.eLst, TL.eCons, TL.eNil, TL.eTup, TL.eCall, TL.eCallF, TL.eB, TL.eNot, TL.eOr, TL.eAnd, TL.eIf, TL.eFrz, TL.fFrz, TL.frzE, TL.mgE, TL.gPar, TL.vT, TL.vF, TL.vNil, TL.stE, TL.gSetE, TL.gOwnE, TL.gIfE, TL.gRetE, TL.gRetFE, TL.gAppE, TL.gPutE, TL.gPut, TL.gApp, TL.gAsgE, TL.gDropE, TL.ownE, TL.fIxO, TL.eCallG, TL.eCallGF, TL.agSlot, TL.agVal, TL.agTmp, TL.agNil, TL.okAgs, TL.okSlots, TL.toSV, TL.backE, TL.isOw, TL.apart, TL.mE, TL.mEF, TL.outE, TL.outEF, TL.endE, TL.parE, TL.kpOk, List.range, List.range.loop, TL.gDict0, TL.gDPut, TL.fGetO, TL.odE, TL.keyD, TL.gApp2, TL.ooE, TL.gFrzO, TL.frzOE, TL.fLcO, TL.gOwnO, TL.fStar, TL.fCallK, TL.fCallFK, TL.permL, TL.eLc, TL.gAll, TL.gAllE, TL.fSlO, TL.fFrzL, TL.eFrzL, TL.fT, TL.truD, TL.isNN, TL.gExt, TL.asL, TL.gOoL, TL.allF, TL.fFrzO, TL.bFrzO, TL.gForApp, TL.fStp, TL.gPop, TL.divmodD, TL.fLrg, TL.eSlTo, TL.flatD, TL.bFrz, TL.gFrz, TL.fFrzL, TL.gRevO, TL.gClear, TL.gPopAt, TL.gIns, TL.ePop, TL.gAug, TL.gForE, TL.jSeq, TL.jRg1, TL.jRg2, TL.jEn, TL.iRg3, TL.iRvR, TL.vS, TL.fIxOd, TL.fGetO, TL.fDin, TL.fDinN, TL.odE, TL.gFrzD, TL.frzDE, TL.fKeys, TL.fVals, TL.fPairs, TL.f3, e3, n1]
    unfold xIfR
    rw [ht]
    by_cases q : ty = tx
    · rw [decide_eq_true q, if_pos q]; rfl
    · rw [decide_eq_false q, if_neg q]; rfl
  unfold M_parse_state mFX
  show (G_parse_state [.sh pl, .sh (.str tx), .un, .un, .un, .un]).bind outFX = _
  rw [hG]
  by_cases q : ty = tx
  · rw [if_pos q, if_pos q]; rfl
  · rw [if_neg q, if_neg q]; rfl
end K14
set_option Elab.async false
set_option linter.all false
set_option maxRecDepth 100000
namespace K14
open PySem PySem.Spec L2 TL AC
def turn (P : Pl) (k : Kd) : Pl := (0, k) :: P.drop 1
theorem turn_len {P : Pl} (w : WF P) (k : Kd) : (turn P k).length = P.length := by
  have := w.ne
  unfold turn
  rw [List.length_cons, List.length_drop]; omega
theorem turn_at {P : Pl} (k : Kd) (i : Nat) : (turn P k)[i + 1]? = P[i + 1]? := by
  unfold turn
  rw [List.getElem?_cons_succ, List.getElem?_drop, Nat.add_comm]
theorem turn_dep {P : Pl} (w : WF P) (k : Kd) (i : Nat) : dep (turn P k) i = dep P i := by
  cases i with
  | zero => rw [w.z]; rfl
  | succ i => unfold dep; rw [turn_at]
theorem turn_wf {P : Pl} (w : WF P) (k : Kd) : WF (turn P k) where
  ne := by rw [turn_len w]; exact w.ne
  le := by rw [turn_len w]; exact w.le
  z := by rw [turn_dep w]; exact w.z
  up := fun i h => by rw [turn_len w] at h; rw [turn_dep w, turn_dep w]; exact w.up i h
theorem turn_parF {P : Pl} (w : WF P) (k : Kd) (i : Nat) : ∀ n, parF (turn P k) i n = parF P i n
  | 0 => rfl
  | n + 1 => by
    unfold parF
    rw [turn_dep w, turn_dep w, turn_parF w k i n]
theorem turn_par {P : Pl} (w : WF P) (k : Kd) (i : Nat) : par (turn P k) i = par P i := turn_parF w k i i
theorem turn_grp {P : Pl} (w : WF P) (k : Kd) (i : Nat) : grp (turn P k) i = grp P i := by
  unfold grp grpN
  rw [turn_len w]
  congr 1
  funext l
  rw [turn_par w]
theorem turn_ns {P : Pl} (w : WF P) (k : Kd) : ns (turn P k) = ns P := by
  unfold ns
  rw [turn_len w]
  refine List.filter_congr fun i _ => ?_
  unfold hasG
  rw [turn_grp w]
theorem turn_pcs {P : Pl} (w : WF P) (k : Kd) (xs : List Nat) : pcs (turn P k) xs = pcs P xs := by
  unfold pcs; rw [turn_ns w]
theorem turn_st {P : Pl} (w : WF P) (k : Kd) (xs : List Nat) : stT (turn P k) xs = stT P xs := by
  unfold stT; rw [turn_pcs w]
theorem cons_of {α : Type} {l : List α} (h : 0 < l.length) : ∃ a r, l = a :: r := by
  cases l with
  | nil => cases h
  | cons a r => exact ⟨a, r, rfl⟩
theorem chos_turn {P : Pl} (w : WF P) (k : Kd) : ∃ C, chos P = chs (knd P 0) (grp P 0) :: C ∧ chos (turn P k) = chs k (grp P 0) :: C := by
  have w' := turn_wf w k
  have hn := w.ne
  have a0 : (chos P)[0]? = some (chs (knd P 0) (grp P 0)) := by rw [chos_get hn, knd_get]
  have hn' : 0 < (turn P k).length := w'.ne
  have b0 : (chos (turn P k))[0]? = some (chs k (grp P 0)) := by rw [chos_get hn', turn_grp w]; rfl
  have h1 : (chos P).drop 1 = (chos (turn P k)).drop 1 := by
    apply List.ext_getElem?
    intro i
    rw [List.getElem?_drop, List.getElem?_drop, Nat.add_comm]
    by_cases h : i + 1 < P.length
    · have h2 : i + 1 < (turn P k).length := by rw [turn_len w]; exact h
      rw [chos_get h, chos_get h2, turn_grp w]
      have : (turn P k)[i + 1] = P[i + 1] := by
        have := turn_at (P := P) k i
        rw [List.getElem?_eq_getElem h, List.getElem?_eq_getElem h2] at this
        exact Option.some.inj this
      rw [this]
    · rw [List.getElem?_eq_none (by rw [chos_len]; omega), List.getElem?_eq_none (by rw [chos_len, turn_len w]; omega)]
  obtain ⟨a, r, e⟩ := cons_of (l := chos P) (by rw [chos_len]; exact hn)
  obtain ⟨b, s, e'⟩ := cons_of (l := chos (turn P k)) (by rw [chos_len]; exact hn')
  rw [e] at a0 h1
  rw [e'] at b0 h1
  simp only [List.getElem?_cons_zero, Option.some.injEq] at a0 b0
  simp only [List.drop_succ_cons, List.drop_zero] at h1
  subst a0 b0 h1
  exact ⟨r, e, e'⟩
theorem is_state14 {P : Pl} (w : WF P) (d : D) : M_is_state [encP P, d] = some (.bool (stOk (chos P) d)) := by
  have h1 := check_plan w
  have h2 := has_settings w d
  generalize encP P = pl at *
  simp [TL.gSeq, TL.gIf, TL.gSet, TL.gOwn, TL.gRet, TL.gRetF, TL.gRetO, TL.gNx, TL.gNo, TL.gBk, TL.gCt, TL.gAsg, TL.fVar, TL.fC, TL.f2, TL.f1, TL.fCons, TL.fNil, TL.fTup, TL.fLst, TL.fCall, TL.fCallF, TL.fTold, TL.fIf, TL.fAnd, TL.fOr, TL.fNot, TL.fMapD, TL.fB, TL.bOr, TL.bAnd, TL.bNot, TL.bYes, TL.fCh, TL.iSeq, TL.iRg1, TL.iRg2, TL.iEn, TL.iZp, TL.aNm, TL.aTup, TL.aCons, TL.aNil, TL.fSl, TL.pSome, TL.pNo, TL.asI, TL.asN, TL.asB, TL.ent, TL.mV, TL.mF, TL.outV, TL.outF, TL.tyNe, TL.tyEq, TL.tyN, TL.lenD, TL.addD_int, TL.subD_int, TL.ltD_int, TL.leD_int, TL.gtD_int, TL.geD_int, TL.negD_int, TL.eqD_int, TL.neD_int, Function.comp_apply, TL.pur, TL.e2, TL.eTold, TL.eLst, TL.eCons, TL.eNil, TL.eTup, TL.eCall, TL.eCallF, TL.eB, TL.eNot, TL.eOr, TL.eAnd, TL.eIf, TL.eFrz, TL.fFrz, TL.frzE, TL.mgE, TL.gPar, TL.vT, TL.vF, TL.vNil, TL.stE, TL.gSetE, TL.gOwnE, TL.gIfE, TL.gRetE, TL.gRetFE, TL.gAppE, TL.gPutE, TL.gPut, TL.gApp, TL.gAsgE, TL.gDropE, TL.ownE, TL.fIxO, TL.eCallG, TL.eCallGF, TL.agSlot, TL.agVal, TL.agTmp, TL.agNil, TL.okAgs, TL.okSlots, TL.toSV, TL.backE, TL.isOw, TL.apart, TL.mE, TL.mEF, TL.outE, TL.outEF, TL.endE, TL.parE, TL.kpOk, List.range, List.range.loop, TL.gDict0, TL.gDPut, TL.fGetO, TL.odE, TL.keyD, TL.gApp2, TL.ooE, TL.gFrzO, TL.frzOE, TL.fLcO, TL.gOwnO, TL.fStar, TL.fCallK, TL.fCallFK, TL.permL, TL.eLc, TL.gAll, TL.gAllE, TL.fSlO, TL.fFrzL, TL.eFrzL, TL.fT, TL.truD, TL.isNN, M_is_state, G_is_state, h1, h2]
theorem okOne_nat (c : List Nat) (x : Nat) : okOne c (.int (x : Int)) = decide (x ∈ c) := by
  rw [Bool.eq_iff_iff]
  show ((encN c).any fun y => PyData.eqv y (.int (x : Int))) = true ↔ _
  rw [List.any_eq_true, decide_eq_true_eq]
  constructor
  · rintro ⟨d, m, h⟩
    unfold encN at m
    obtain ⟨y, hy, rfl⟩ := List.mem_map.1 m
    rw [eqv_int, decide_eq_true_eq] at h
    have : y = x := by omega
    subst this; exact hy
  · intro h
    refine ⟨.int (x : Int), ?_, by rw [eqv_int]; simp⟩
    unfold encN
    exact List.mem_map.2 ⟨x, h, rfl⟩
theorem st_cons {P : Pl} (w : WF P) (k : Kd) {xs : List Nat} (hx : IsSt P xs) : ∃ x r, xs = x :: r ∧ x ∈ chs (knd P 0) (grp P 0) ∧ (∀ y, IsSt (turn P k) (y :: r) ↔ y ∈ chs k (grp P 0)) ∧
    ∀ y : Nat, stOk (chos (turn P k)) (.list (encN (y :: r))) = decide (y ∈ chs k (grp P 0)) := by
  obtain ⟨C, e1, e2⟩ := chos_turn w k
  have ht := st_true hx
  unfold IsSt at hx
  rw [e1] at hx ht
  cases hx with
  | @cons x c r cs h hr =>
    refine ⟨x, r, rfl, h, fun y => ?_, fun y => ?_⟩
    · unfold IsSt
      rw [e2]
      constructor
      · intro q; cases q with | cons a b => exact a
      · intro q; exact .cons q hr
    · rw [e2]
      have t1 : (decide ((encN (x :: r)).length = (chs (knd P 0) (grp P 0) :: C).length) && (okOne (chs (knd P 0) (grp P 0)) (.int (x : Int)) && okAll ((encN r).zip C))) = true := ht
      show (decide ((encN (y :: r)).length = (chs k (grp P 0) :: C).length) && (okOne (chs k (grp P 0)) (.int (y : Int)) && okAll ((encN r).zip C))) = _
      rw [Bool.and_eq_true, Bool.and_eq_true, decide_eq_true_eq] at t1
      have l1 : (encN (y :: r)).length = (chs k (grp P 0) :: C).length := by
        have := t1.1
        rw [encN_len] at this ⊢
        simpa using this
      rw [decide_eq_true l1, t1.2.2, okOne_nat, Bool.true_and, Bool.and_true]
end K14
set_option Elab.async false
set_option linter.all false
set_option maxRecDepth 100000
namespace K14
open PySem PySem.Spec L2 TL AC
def rdD : Option (List D) → D
  | some xs => .list xs
  | none => .none
theorem read_some {a b : D} {r : Option (List D)} (h : M_parse_state [a, b] = some r) : M_law_read [a, b] = some (rdD r) := by
  unfold M_law_read mV
  show (G_law_read [.sh a, .sh b]).bind outV = _
  unfold G_law_read gTryF
  have e : (fCons (fVar 0) (fCons (fVar 1) fNil)) [.sh a, .sh b] = some [a, b] := rfl
  rw [e, Option.bind_some, if_pos (by rfl), h]
  cases r <;> rfl
theorem turn_get {P : Pl} (w : WF P) (k : Kd) {j : Nat} (h : j + 1 < (turn P k).length) (h' : j + 1 < P.length) : (turn P k)[j + 1] = P[j + 1] := by
  have := turn_at (P := P) k j
  rw [List.getElem?_eq_getElem h, List.getElem?_eq_getElem h'] at this
  exact Option.some.inj this
theorem read_turned {P : Pl} (w : WF P) {xs : List Nat} (hx : IsSt P xs) (k : Kd) :
    ∃ b : Bool, M_is_state [encP (turn P k), .list (encN xs)] = some (.bool b) ∧ M_law_read [encP (turn P k), .str (stT P xs)] = some (if b = true then .list (encN xs) else .none) := by
  have w' := turn_wf w k
  have hs := (join_ok w hx).2
  have le := w.le
  obtain ⟨x, r, rfl, hm, h1, h2⟩ := st_cons w k hx
  refine ⟨decide (x ∈ chs k (grp P 0)), by rw [is_state14 w', h2], ?_⟩
  by_cases c : x ∈ chs k (grp P 0)
  · have it : IsSt (turn P k) (x :: r) := (h1 x).2 c
    have hp := parse_with (P := P) (xs := x :: r) (ys := x :: r) w' hs it fun j hj => by
      have := setting_among w' it hj
      rw [turn_pcs w] at this
      exact this
    rw [if_pos (turn_st w k _)] at hp
    rw [read_some hp, decide_eq_true c]; rfl
  · obtain ⟨y, q, ey⟩ := cons_of (l := chs k (grp P 0)) (List.length_pos_iff.2 chs_ne)
    have hy : y ∈ chs k (grp P 0) := by rw [ey]; exact .head _
    have it : IsSt (turn P k) (y :: r) := (h1 y).2 hy
    have hg : grp P 0 ≠ [] := fun z => by
      rw [z] at c hm
      unfold chs at c hm
      rw [if_pos (.inr rfl)] at c hm
      exact c hm
    have h0 : 0 ∈ ns P := ns_mem.2 ⟨w.ne, hg⟩
    have hp := parse_with (P := P) (xs := x :: r) (ys := y :: r) w' hs it fun j hj => by
      cases j with
      | zero =>
        have e : (turn P k)[0].2 = k := rfl
        rw [e, turn_grp w]
        refine setting_amongG (by decide) (Nat.le_trans (@chs_len P 0 k) (by omega)) (fun s m => by rcases chs_mem m with h | h <;> omega) ?_
        have hf : (chs k (grp P 0)).filter (fun s => decide (pc 0 s ∈ pcs P (x :: r))) = [] := by
          rw [List.filter_eq_nil_iff]
          intro s m hh
          have := (pcs_mem.1 (of_decide_eq_true hh)).2
          have e3 : s = x := this
          exact c (e3 ▸ m)
        rw [hf, List.nil_append, ey]; rfl
      | succ j =>
        have hj' : j + 1 < P.length := by rw [turn_len w] at hj; exact hj
        rw [turn_get w k hj hj', turn_grp w]
        exact setting_among w hx hj'
    have hne : stT (turn P k) (y :: r) ≠ stT P (x :: r) := fun z => by
      rw [turn_st w] at z
      have wj (zs : List Nat) : Txt.words (stT P zs) = pcs P zs := words_join _ fun y hy => by
        obtain ⟨j, _, rfl⟩ := List.mem_map.1 hy
        exact pc_word _ _
      have z2 : pcs P (y :: r) = pcs P (x :: r) := by rw [← wj, ← wj, z]
      have a : pc 0 y ∈ pcs P (y :: r) := pcs_mem.2 ⟨h0, rfl⟩
      rw [z2] at a
      have : y = x := (pcs_mem.1 a).2
      exact c (this ▸ hy)
    rw [if_neg hne] at hp
    rw [read_some hp, decide_eq_false c]; rfl
end K14
set_option Elab.async false
set_option linter.all false
set_option maxRecDepth 100000
namespace K14
open PySem PySem.Spec L2 TL AC
theorem nm_inj {k l : Kd} (h : k.nm = l.nm) : k = l := by
  have h2 : tl k.nm = tl l.nm := by rw [h]
  cases k <;> cases l <;> first | rfl | (simp [nm_one, nm_tab, nm_step] at h2)
theorem eqv_rows : ∀ a b : Pl, PyData.eqvAll (a.map encR) (b.map encR) = decide (a = b)
  | [], [] => rfl
  | [], _ :: _ => rfl
  | _ :: _, [] => rfl
  | (i, p) :: a, (j, q) :: b => by
    have ih := eqv_rows a b
    show (PyData.eqv (.tuple [.int (i : Nat), .str p.nm]) (.tuple [.int (j : Nat), .str q.nm]) && PyData.eqvAll (a.map encR) (b.map encR)) = _
    rw [ih]
    have e1 : PyData.eqv (.tuple [.int (i : Nat), .str p.nm]) (.tuple [.int (j : Nat), .str q.nm]) = (PyData.eqv (.int (i : Nat)) (.int (j : Nat)) && (PyData.eqv (.str p.nm) (.str q.nm) && true)) := rfl
    rw [e1, eqv_strs, eqv_int, Bool.and_true, Bool.eq_iff_iff]
    simp only [Bool.and_eq_true, decide_eq_true_eq, List.cons.injEq, Prod.mk.injEq]
    constructor
    · rintro ⟨⟨h1, h2⟩, h3⟩; exact ⟨⟨by omega, nm_inj h2⟩, h3⟩
    · rintro ⟨⟨h1, h2⟩, h3⟩; exact ⟨⟨by omega, by rw [h2]⟩, h3⟩
theorem eqD_rows {P Q : Pl} (wP : WF P) (wQ : WF Q) : eqD (.list (P.map encR)) (.list (Q.map encR)) = some (.bool (decide (P = Q))) := by
  have f := rows_fine wP wP.le fun r m => m
  have g := rows_fine wQ wQ.le fun r m => m
  refine (if_pos (eqOk_of f.plain g.plain (.inl (Nat.le_trans f.dp (by decide))))).trans ?_
  congr 2
  exact eqv_rows P Q
theorem ne_of_eq {a b : D} {x : Bool} (h : eqD a b = some (.bool x)) : neD a b = some (.bool (!x)) := by
  unfold eqD at h
  unfold neD
  by_cases c : eqOk a b = true
  · rw [if_pos c] at h ⊢
    injection h with h
    injection h with h
    rw [h]
  · rw [if_neg c] at h; cases h
theorem encR_inj {a b : Nat × Kd} (h : encR a = encR b) : a = b := by
  obtain ⟨i, p⟩ := a
  obtain ⟨j, q⟩ := b
  unfold encR at h
  injection h with h
  injection h with h1 h2
  injection h1 with h1
  injection h2 with h2 _
  injection h2 with h2
  have : i = j := by have : ((i : Nat) : Int) = (j : Nat) := h1; omega
  have h3 : p = q := nm_inj h2
  rw [this, h3]
theorem plT_inj {P Q : Pl} (wP : WF P) (wQ : WF Q) : decide (plT P = plT Q) = decide (P = Q) := by
  rw [Bool.eq_iff_iff, decide_eq_true_eq, decide_eq_true_eq]
  constructor
  · intro h
    have a := parse_plan wP
    have b := parse_plan wQ
    rw [h, b] at a
    injection a with a
    have inj : ∀ (l m : Pl), l.map encR = m.map encR → l = m := by
      intro l
      induction l with
      | nil => intro m e; cases m with | nil => rfl | cons x y => cases e
      | cons x l ih =>
        intro m e
        cases m with
        | nil => cases e
        | cons y m =>
          rw [List.map_cons, List.map_cons] at e
          injection e with e1 e2
          rw [encR_inj e1, ih m e2]
    exact (inj _ _ a).symm
  · intro h; rw [h]
theorem words_st (P : Pl) (xs : List Nat) : Txt.words (stT P xs) = pcs P xs := words_join _ fun y hy => by
  obtain ⟨j, _, rfl⟩ := List.mem_map.1 hy
  exact pc_word _ _
theorem stT_inj {P : Pl} (w : WF P) {xs ys : List Nat} (hx : IsSt P xs) (hy : IsSt P ys) : decide (stT P xs = stT P ys) = decide (xs = ys) := by
  rw [Bool.eq_iff_iff, decide_eq_true_eq, decide_eq_true_eq]
  constructor
  · intro h
    have z : pcs P xs = pcs P ys := by rw [← words_st, ← words_st, h]
    apply List.ext_getElem?
    intro k
    by_cases hk : k < P.length
    · obtain ⟨_, a2, a3⟩ := st_small w hx hk
      obtain ⟨_, b2, b3⟩ := st_small w hy hk
      rw [a3, b3]
      by_cases hn : k ∈ ns P
      · have a : pc k (xs.getD k 0) ∈ pcs P xs := pcs_mem.2 ⟨hn, rfl⟩
        rw [z] at a
        rw [(pcs_mem.1 a).2]
      · have hg : grp P k = [] := by
          by_cases q : grp P k = []
          · exact q
          · exact (hn (ns_mem.2 ⟨hk, q⟩)).elim
        rw [hg] at a2 b2
        have e : chs (P[k]).2 [] = [0] := by unfold chs; rw [if_pos (.inr rfl)]
        rw [e] at a2 b2
        rw [List.mem_singleton.1 a2, List.mem_singleton.1 b2]
    · rw [List.getElem?_eq_none (by rw [hx.len]; omega), List.getElem?_eq_none (by rw [hy.len]; omega)]
  · intro h; rw [h]
theorem joinL_count (c : Nat) (h : c ≠ 32) : ∀ ls : List (List Nat), (joinL [32] ls).count c = (ls.map fun l => l.count c).sum
  | [] => rfl
  | [p] => by simp [joinL]
  | p :: q :: r => by
    have ih := joinL_count c h (q :: r)
    show (p ++ ([32] ++ joinL [32] (q :: r))).count c = _
    have z : [32].count c = 0 := by
      rw [List.count_cons, if_neg (by simpa using fun e : 32 = c => h e.symm)]; rfl
    rw [List.count_append, List.count_append, ih, z, Nat.zero_add]; rfl
theorem pc_colon (j x : Nat) : (tl (pc j x)).count 58 = 1 := by
  have z (n : Nat) : (numL n).count 58 = 0 := List.count_eq_zero.2 fun m => by have := num_dig n _ m; omega
  rw [tl_pc, List.count_append, List.count_append, z, z]; rfl
theorem count_colon {P : Pl} (xs : List Nat) : Txt.count (stT P xs) (Str.ofString ":") = (((ns P).length : Nat) : Int) := by
  have t : tl (Str.ofString ":") = [58] := by rw [tl_ofString]; decide
  rw [count_one t]
  unfold stT
  rw [join_eq, tl_join, tl_sp, joinL_count 58 (by decide), List.map_map]
  unfold pcs
  rw [List.map_map]
  have : ∀ l : List Nat, (l.map (((fun l : List Nat => l.count 58) ∘ tl) ∘ fun j => pc j (xs.getD j 0))).sum = l.length := by
    intro l
    induction l with
    | nil => rfl
    | cons a r ih =>
      rw [List.map_cons, List.sum_cons, ih, List.length_cons]
      show (tl (pc a (xs.getD a 0))).count 58 + r.length = _
      rw [pc_colon]; omega
  rw [this]
theorem less_wf {P : Pl} (w : WF P) {s e : Nat} (h0 : 0 < s) (hs : s < P.length) (he : EndOf P s e) : WF (P.take s ++ P.drop e) ∧ (P.take s ++ P.drop e).length = P.length - (e - s) := by
  have h1 := he.lt
  have h2 := he.le
  have hl : (P.take s ++ P.drop e).length = P.length - (e - s) := by
    rw [List.length_append, List.length_take, List.length_drop]; omega
  have d1 : ∀ i, i < s → dep (P.take s ++ P.drop e) i = dep P i := fun i h => by
    unfold dep
    rw [List.getElem?_append_left (by rw [List.length_take]; omega), List.getElem?_take_of_lt h]
  have d2 : ∀ i, s ≤ i → dep (P.take s ++ P.drop e) i = dep P (e + (i - s)) := fun i h => by
    unfold dep
    rw [List.getElem?_append_right (by rw [List.length_take]; omega), List.length_take, List.getElem?_drop, Nat.min_eq_left (by omega)]
  refine ⟨⟨by omega, by have := w.le; omega, by rw [d1 0 h0]; exact w.z, fun i hi => ?_⟩, hl⟩
  rw [hl] at hi
  by_cases c1 : i + 1 < s
  · rw [d1 _ c1, d1 i (by omega)]
    exact w.up i (by omega)
  · by_cases c2 : i + 1 = s
    · rw [d2 (i + 1) (by omega), d1 i (by omega), show e + (i + 1 - s) = e by omega]
      obtain ⟨f, rfl⟩ : ∃ f, e = f + 1 := ⟨e - 1, by omega⟩
      have a := w.up f (by omega)
      have b := w.up i (by omega)
      have c := he.up
      rw [← c2] at c
      omega
    · rw [d2 (i + 1) (by omega), d2 i (by omega), show e + (i + 1 - s) = e + (i - s) + 1 by omega]
      exact w.up (e + (i - s)) (by omega)
end K14
set_option Elab.async false
set_option linter.all false
set_option maxRecDepth 100000
namespace K14
open PySem PySem.Spec L2 TL AC
theorem step_holds14 {P : Pl} (w : WF P) {s : Nat} (h0 : 0 < s) (hs : s < P.length) {s0 s1 s2 s3 s4 s5 s6 s9 s10 s11 s12 s13 : SV} :
    ∃ t12 t13, B_law_holds_1 [s0, s1, s2, s3, s4, s5, s6, .sh (.int (s : Int)), .sh (encP P), s9, s10, s11, s12, s13] = some (.nx [s0, s1, s2, s3, s4, s5, s6, .sh (.int (s : Int)), .sh (encP P), s9, s10, s11, t12, t13]) := by
  obtain ⟨e, he⟩ := endOf_ex hs
  obtain ⟨wl, hl⟩ := less_wf w h0 hs he
  have h1 := plan_without w h0 hs he
  have h2 := sections_within w hs he
  have h3 := format_plan wl
  have h4 := parse_plan wl
  have h5 := ne_of_eq (eqD_rows wl wl)
  rw [decide_eq_true rfl] at h5
  have a1 := he.lt
  have a2 := he.le
  have lp : (P.map encR).length = P.length := by simp
  have l2 : ((P.take s ++ P.drop e).map encR).length = P.length - (e - s) := by rw [List.length_map, hl]
  have l3 : (encN (List.range' (s + 1) (e - (s + 1)))).length = e - (s + 1) := by rw [encN_len, List.length_range']
  have hh : ((P.length - (e - s) : Nat) : Int) = (P.length : Int) - (1 + ((e - (s + 1) : Nat) : Int)) := by omega
  have ep : encP P = .list (P.map encR) := rfl
  have el : encP (P.take s ++ P.drop e) = .list ((P.take s ++ P.drop e).map encR) := rfl
  rw [el] at h3
  refine ⟨.sh (.list ((P.take s ++ P.drop e).map encR)), .sh (.int (1 + ((e - (s + 1) : Nat) : Int))), ?_⟩
  rw [ep] at h1 h2 ⊢
  generalize (P.take s ++ P.drop e).map encR = ls at *
  generalize encN (List.range' (s + 1) (e - (s + 1))) = ws at *
  generalize P.map encR = pl at *
  generalize plT (P.take s ++ P.drop e) = tx at *
  generalize (s : Int) = ss at *
  generalize hn1 : ((e - (s + 1) : Nat) : Int) = n1 at *
  have l3' : ((ws.length : Nat) : Int) = n1 := by rw [l3, hn1]
  have l2i : ((ls.length : Nat) : Int) = (pl.length : Int) - (1 + n1) := by rw [l2, lp, hh]
  generalize hv1 : 1 + n1 = v1 at *
  have h5' : neD (.list ls) (.list ls) = some (.bool false) := h5
  unfold B_law_holds_1
  refine (gSeq_nx (e' := [s0, s1, s2, s3, s4, s5, s6, .sh (.int ss), .sh (.list pl), s9, s10, s11, .sh (.list ls), s13]) (by simp [TL.gSeq, TL.gIf, TL.gSet, TL.gOwn, TL.gRet, TL.gRetF, TL.gRetO, TL.gNx, TL.gNo, TL.gBk, TL.gCt, TL.gAsg, TL.fVar, TL.fC, TL.f2, TL.f1, TL.fCons, TL.fNil, TL.fTup, TL.fLst, TL.fCall, TL.fCallF, TL.fTold, TL.fIf, TL.fAnd, TL.fOr, TL.fNot, TL.fMapD, TL.fB, TL.bOr, TL.bAnd, TL.bNot, TL.bYes, TL.fCh, TL.iSeq, TL.iRg1, TL.iRg2, TL.iEn, TL.iZp, TL.aNm, TL.aTup, TL.aCons, TL.aNil, TL.fSl, TL.pSome, TL.pNo, TL.asI, TL.asN, TL.asB, TL.ent, TL.mV, TL.mF, TL.outV, TL.outF, TL.tyNe, TL.tyEq, TL.tyN, TL.lenD, TL.addD_int, TL.subD_int, TL.ltD_int, TL.leD_int, TL.gtD_int, TL.geD_int, TL.negD_int, TL.eqD_int, TL.neD_int, Function.comp_apply, TL.pur, TL.e2, TL.eTold, TL.eLst, TL.eCons, TL.eNil, TL.eTup, TL.eCall, TL.eCallF, TL.eB, TL.eNot, TL.eOr, TL.eAnd, TL.eIf, TL.eFrz, TL.fFrz, TL.frzE, TL.mgE, TL.gPar, TL.vT, TL.vF, TL.vNil, TL.stE, TL.gSetE, TL.gOwnE, TL.gIfE, TL.gRetE, TL.gRetFE, TL.gAppE, TL.gPutE, TL.gPut, TL.gApp, TL.gAsgE, TL.gDropE, TL.ownE, TL.fIxO, TL.eCallG, TL.eCallGF, TL.agSlot, TL.agVal, TL.agTmp, TL.agNil, TL.okAgs, TL.okSlots, TL.toSV, TL.backE, TL.isOw, TL.apart, TL.mE, TL.mEF, TL.outE, TL.outEF, TL.endE, TL.parE, TL.kpOk, List.range, List.range.loop, TL.gDict0, TL.gDPut, TL.fGetO, TL.odE, TL.keyD, TL.gApp2, TL.ooE, TL.gFrzO, TL.frzOE, TL.fLcO, TL.gOwnO, TL.fStar, TL.fCallK, TL.fCallFK, TL.permL, TL.eLc, TL.gAll, TL.gAllE, TL.fSlO, TL.fFrzL, TL.eFrzL, TL.fT, TL.truD, TL.isNN, TL.gExt, TL.asL, TL.gOoL, TL.allF, TL.fFrzO, TL.bFrzO, TL.gForApp, TL.fStp, TL.gPop, TL.divmodD, TL.fLrg, TL.eSlTo, TL.flatD, TL.bFrz, TL.gFrz, TL.fFrzL, TL.gRevO, TL.gClear, TL.gPopAt, TL.gIns, TL.ePop, TL.gAug, TL.gForE, TL.jSeq, TL.jRg1, TL.jRg2, TL.jEn, TL.iRg3, TL.iRvR, TL.vS, TL.fIxOd, TL.fGetO, TL.fDin, TL.fDinN, TL.odE, TL.gFrzD, TL.frzDE, TL.fKeys, TL.fVals, TL.fPairs, TL.f3, h1])).trans ?_
  refine (gSeq_nx (e' := [s0, s1, s2, s3, s4, s5, s6, .sh (.int ss), .sh (.list pl), s9, s10, s11, .sh (.list ls), .sh (.int v1)]) (by simp [TL.gSeq, TL.gIf, TL.gSet, TL.gOwn, TL.gRet, TL.gRetF, TL.gRetO, TL.gNx, TL.gNo, TL.gBk, TL.gCt, TL.gAsg, TL.fVar, TL.fC, TL.f2, TL.f1, TL.fCons, TL.fNil, TL.fTup, TL.fLst, TL.fCall, TL.fCallF, TL.fTold, TL.fIf, TL.fAnd, TL.fOr, TL.fNot, TL.fMapD, TL.fB, TL.bOr, TL.bAnd, TL.bNot, TL.bYes, TL.fCh, TL.iSeq, TL.iRg1, TL.iRg2, TL.iEn, TL.iZp, TL.aNm, TL.aTup, TL.aCons, TL.aNil, TL.fSl, TL.pSome, TL.pNo, TL.asI, TL.asN, TL.asB, TL.ent, TL.mV, TL.mF, TL.outV, TL.outF, TL.tyNe, TL.tyEq, TL.tyN, TL.lenD, TL.addD_int, TL.subD_int, TL.ltD_int, TL.leD_int, TL.gtD_int, TL.geD_int, TL.negD_int, TL.eqD_int, TL.neD_int, Function.comp_apply, TL.pur, TL.e2, TL.eTold, TL.eLst, TL.eCons, TL.eNil, TL.eTup, TL.eCall, TL.eCallF, TL.eB, TL.eNot, TL.eOr, TL.eAnd, TL.eIf, TL.eFrz, TL.fFrz, TL.frzE, TL.mgE, TL.gPar, TL.vT, TL.vF, TL.vNil, TL.stE, TL.gSetE, TL.gOwnE, TL.gIfE, TL.gRetE, TL.gRetFE, TL.gAppE, TL.gPutE, TL.gPut, TL.gApp, TL.gAsgE, TL.gDropE, TL.ownE, TL.fIxO, TL.eCallG, TL.eCallGF, TL.agSlot, TL.agVal, TL.agTmp, TL.agNil, TL.okAgs, TL.okSlots, TL.toSV, TL.backE, TL.isOw, TL.apart, TL.mE, TL.mEF, TL.outE, TL.outEF, TL.endE, TL.parE, TL.kpOk, List.range, List.range.loop, TL.gDict0, TL.gDPut, TL.fGetO, TL.odE, TL.keyD, TL.gApp2, TL.ooE, TL.gFrzO, TL.frzOE, TL.fLcO, TL.gOwnO, TL.fStar, TL.fCallK, TL.fCallFK, TL.permL, TL.eLc, TL.gAll, TL.gAllE, TL.fSlO, TL.fFrzL, TL.eFrzL, TL.fT, TL.truD, TL.isNN, TL.gExt, TL.asL, TL.gOoL, TL.allF, TL.fFrzO, TL.bFrzO, TL.gForApp, TL.fStp, TL.gPop, TL.divmodD, TL.fLrg, TL.eSlTo, TL.flatD, TL.bFrz, TL.gFrz, TL.fFrzL, TL.gRevO, TL.gClear, TL.gPopAt, TL.gIns, TL.ePop, TL.gAug, TL.gForE, TL.jSeq, TL.jRg1, TL.jRg2, TL.jEn, TL.iRg3, TL.iRvR, TL.vS, TL.fIxOd, TL.fGetO, TL.fDin, TL.fDinN, TL.odE, TL.gFrzD, TL.frzDE, TL.fKeys, TL.fVals, TL.fPairs, TL.f3, h2, l3', hv1])).trans ?_
  simp [TL.gSeq, TL.gIf, TL.gSet, TL.gOwn, TL.gRet, TL.gRetF, TL.gRetO, TL.gNx, TL.gNo, TL.gBk, TL.gCt, TL.gAsg, TL.fVar, TL.fC, TL.f2, TL.f1, TL.fCons, TL.fNil, TL.fTup, TL.fLst, TL.fCall, TL.fCallF, TL.fTold, TL.fIf, TL.fAnd, TL.fOr, TL.fNot, TL.fMapD, TL.fB, TL.bOr, TL.bAnd, TL.bNot, TL.bYes, TL.fCh, TL.iSeq, TL.iRg1, TL.iRg2, TL.iEn, TL.iZp, TL.aNm, TL.aTup, TL.aCons, TL.aNil, TL.fSl, TL.pSome, TL.pNo, TL.asI, TL.asN, TL.asB, TL.ent, TL.mV, TL.mF, TL.outV, TL.outF, TL.tyNe, TL.tyEq, TL.tyN, TL.lenD, TL.addD_int, TL.subD_int, TL.ltD_int, TL.leD_int, TL.gtD_int, TL.geD_int, TL.negD_int, TL.eqD_int, TL.neD_int, Function.comp_apply, TL.pur, TL.e2, TL.eTold, TL.eLst, TL.eCons, TL.eNil, TL.eTup, TL.eCall, TL.eCallF, TL.eB, TL.eNot, TL.eOr, TL.eAnd, TL.eIf, TL.eFrz, TL.fFrz, TL.frzE, TL.mgE, TL.gPar, TL.vT, TL.vF, TL.vNil, TL.stE, TL.gSetE, TL.gOwnE, TL.gIfE, TL.gRetE, TL.gRetFE, TL.gAppE, TL.gPutE, TL.gPut, TL.gApp, TL.gAsgE, TL.gDropE, TL.ownE, TL.fIxO, TL.eCallG, TL.eCallGF, TL.agSlot, TL.agVal, TL.agTmp, TL.agNil, TL.okAgs, TL.okSlots, TL.toSV, TL.backE, TL.isOw, TL.apart, TL.mE, TL.mEF, TL.outE, TL.outEF, TL.endE, TL.parE, TL.kpOk, List.range, List.range.loop, TL.gDict0, TL.gDPut, TL.fGetO, TL.odE, TL.keyD, TL.gApp2, TL.ooE, TL.gFrzO, TL.frzOE, TL.fLcO, TL.gOwnO, TL.fStar, TL.fCallK, TL.fCallFK, TL.permL, TL.eLc, TL.gAll, TL.gAllE, TL.fSlO, TL.fFrzL, TL.eFrzL, TL.fT, TL.truD, TL.isNN, TL.gExt, TL.asL, TL.gOoL, TL.allF, TL.fFrzO, TL.bFrzO, TL.gForApp, TL.fStp, TL.gPop, TL.divmodD, TL.fLrg, TL.eSlTo, TL.flatD, TL.bFrz, TL.gFrz, TL.fFrzL, TL.gRevO, TL.gClear, TL.gPopAt, TL.gIns, TL.ePop, TL.gAug, TL.gForE, TL.jSeq, TL.jRg1, TL.jRg2, TL.jEn, TL.iRg3, TL.iRvR, TL.vS, TL.fIxOd, TL.fGetO, TL.fDin, TL.fDinN, TL.odE, TL.gFrzD, TL.frzDE, TL.fKeys, TL.fVals, TL.fPairs, TL.f3, l2i, h3, h4, h5', hv1]
end K14
set_option Elab.async false
set_option linter.all false
set_option maxRecDepth 100000
namespace K14
open PySem PySem.Spec L2 TL AC
theorem groups_lc {P : Pl} (w : WF P) {s0 s1 s2 s3 s4 s5 s6 s9 s10 s11 s12 s13 : SV} : fLc [7] (iRg1 (fCons (fCall lenD (fCons (fVar 8) fNil)) fNil)) (aNm 7) (fB (f2 neD (fCall (fun ds => if ds.length = 2 then M_group_of ds else none) (fCons (fVar 8) (fCons (fVar 7) fNil))) (fTold (fLst fNil)))) E_law_holds_1 [s0, s1, s2, s3, s4, s5, s6, .un, .sh (encP P), s9, s10, s11, s12, s13] = some (encN (ns P)) := by
  have le := w.le
  have e1 : lcG (aNm 7) (fB (f2 neD (fCall (fun ds => if ds.length = 2 then M_group_of ds else none) (fCons (fVar 8) (fCons (fVar 7) fNil))) (fTold (fLst fNil)))) E_law_holds_1 (rngD 0 P.length) [s0, s1, s2, s3, s4, s5, s6, .un, .sh (encP P), s9, s10, s11, s12, s13] = some (encN (ns P)) := by
    rw [rngD_map]
    refine lc_list (H := fun (k : Nat) => PyData.int (k : Int)) (F := fun s => .int (s : Int)) (T := hasG P) (List.range P.length) fun k hk => ?_
    rw [List.mem_range] at hk
    refine ⟨[s0, s1, s2, s3, s4, s5, s6, .sh (.int (k : Int)), .sh (encP P), s9, s10, s11, s12, s13], rfl, ?_, fun _ => rfl⟩
    have h1 := group_of w hk
    have h2 := ne_of_eq (eq_nil2 (grp P k))
    have h3 : hasG P k = !(grp P k).isEmpty := by unfold hasG encN; cases grp P k <;> rfl
    rw [h3]
    have l0 : (0 : Nat) ≤ LN := Nat.zero_le _
    generalize (grp P k).isEmpty = b at *
    generalize encN (grp P k) = g at *
    generalize encP P = pl at *
    generalize (k : Int) = kk at *
    simp [TL.gSeq, TL.gIf, TL.gSet, TL.gOwn, TL.gRet, TL.gRetF, TL.gRetO, TL.gNx, TL.gNo, TL.gBk, TL.gCt, TL.gAsg, TL.fVar, TL.fC, TL.f2, TL.f1, TL.fCons, TL.fNil, TL.fTup, TL.fLst, TL.fCall, TL.fCallF, TL.fTold, TL.fIf, TL.fAnd, TL.fOr, TL.fNot, TL.fMapD, TL.fB, TL.bOr, TL.bAnd, TL.bNot, TL.bYes, TL.fCh, TL.iSeq, TL.iRg1, TL.iRg2, TL.iEn, TL.iZp, TL.aNm, TL.aTup, TL.aCons, TL.aNil, TL.fSl, TL.pSome, TL.pNo, TL.asI, TL.asN, TL.asB, TL.ent, TL.mV, TL.mF, TL.outV, TL.outF, TL.tyNe, TL.tyEq, TL.tyN, TL.lenD, TL.addD_int, TL.subD_int, TL.ltD_int, TL.leD_int, TL.gtD_int, TL.geD_int, TL.negD_int, TL.eqD_int, TL.neD_int, Function.comp_apply, TL.pur, TL.e2, TL.eTold, TL.eLst, TL.eCons, TL.eNil, TL.eTup, TL.eCall, TL.eCallF, TL.eB, TL.eNot, TL.eOr, TL.eAnd, TL.eIf, TL.eFrz, TL.fFrz, TL.frzE, TL.mgE, TL.gPar, TL.vT, TL.vF, TL.vNil, TL.stE, TL.gSetE, TL.gOwnE, TL.gIfE, TL.gRetE, TL.gRetFE, TL.gAppE, TL.gPutE, TL.gPut, TL.gApp, TL.gAsgE, TL.gDropE, TL.ownE, TL.fIxO, TL.eCallG, TL.eCallGF, TL.agSlot, TL.agVal, TL.agTmp, TL.agNil, TL.okAgs, TL.okSlots, TL.toSV, TL.backE, TL.isOw, TL.apart, TL.mE, TL.mEF, TL.outE, TL.outEF, TL.endE, TL.parE, TL.kpOk, List.range, List.range.loop, TL.gDict0, TL.gDPut, TL.fGetO, TL.odE, TL.keyD, TL.gApp2, TL.ooE, TL.gFrzO, TL.frzOE, TL.fLcO, TL.gOwnO, TL.fStar, TL.fCallK, TL.fCallFK, TL.permL, TL.eLc, TL.gAll, TL.gAllE, TL.fSlO, TL.fFrzL, TL.eFrzL, TL.fT, TL.truD, TL.isNN, TL.gExt, TL.asL, TL.gOoL, TL.allF, TL.fFrzO, TL.bFrzO, TL.gForApp, TL.fStp, TL.gPop, TL.divmodD, TL.fLrg, TL.eSlTo, TL.flatD, TL.bFrz, TL.gFrz, TL.fFrzL, TL.gRevO, TL.gClear, TL.gPopAt, TL.gIns, TL.ePop, TL.gAug, TL.gForE, TL.jSeq, TL.jRg1, TL.jRg2, TL.jEn, TL.iRg3, TL.iRvR, TL.vS, TL.fIxOd, TL.fGetO, TL.fDin, TL.fDinN, TL.odE, TL.gFrzD, TL.frzDE, TL.fKeys, TL.fVals, TL.fPairs, TL.f3, h1, h2, l0]
  have lp : (P.map encR).length = P.length := by simp
  have lr : (rngD 0 P.length).length ≤ LN := by
    rw [rngD_map, List.length_map, List.length_range]; show _ ≤ 16777216; omega
  have ep : encP P = .list (P.map encR) := rfl
  have hb : P.length < 4611686018427387904 := by omega
  have hf : (iRg1 (fCons (fCall lenD (fCons (fVar 8) fNil)) fNil)) [s0, s1, s2, s3, s4, s5, s6, .un, .sh (encP P), s9, s10, s11, s12, s13] = some (rngD 0 P.length) := by
    rw [ep]
    generalize P.map encR = pl at *
    simp [TL.gSeq, TL.gIf, TL.gSet, TL.gOwn, TL.gRet, TL.gRetF, TL.gRetO, TL.gNx, TL.gNo, TL.gBk, TL.gCt, TL.gAsg, TL.fVar, TL.fC, TL.f2, TL.f1, TL.fCons, TL.fNil, TL.fTup, TL.fLst, TL.fCall, TL.fCallF, TL.fTold, TL.fIf, TL.fAnd, TL.fOr, TL.fNot, TL.fMapD, TL.fB, TL.bOr, TL.bAnd, TL.bNot, TL.bYes, TL.fCh, TL.iSeq, TL.iRg1, TL.iRg2, TL.iEn, TL.iZp, TL.aNm, TL.aTup, TL.aCons, TL.aNil, TL.fSl, TL.pSome, TL.pNo, TL.asI, TL.asN, TL.asB, TL.ent, TL.mV, TL.mF, TL.outV, TL.outF, TL.tyNe, TL.tyEq, TL.tyN, TL.lenD, TL.addD_int, TL.subD_int, TL.ltD_int, TL.leD_int, TL.gtD_int, TL.geD_int, TL.negD_int, TL.eqD_int, TL.neD_int, Function.comp_apply, TL.pur, TL.e2, TL.eTold, TL.eLst, TL.eCons, TL.eNil, TL.eTup, TL.eCall, TL.eCallF, TL.eB, TL.eNot, TL.eOr, TL.eAnd, TL.eIf, TL.eFrz, TL.fFrz, TL.frzE, TL.mgE, TL.gPar, TL.vT, TL.vF, TL.vNil, TL.stE, TL.gSetE, TL.gOwnE, TL.gIfE, TL.gRetE, TL.gRetFE, TL.gAppE, TL.gPutE, TL.gPut, TL.gApp, TL.gAsgE, TL.gDropE, TL.ownE, TL.fIxO, TL.eCallG, TL.eCallGF, TL.agSlot, TL.agVal, TL.agTmp, TL.agNil, TL.okAgs, TL.okSlots, TL.toSV, TL.backE, TL.isOw, TL.apart, TL.mE, TL.mEF, TL.outE, TL.outEF, TL.endE, TL.parE, TL.kpOk, List.range, List.range.loop, TL.gDict0, TL.gDPut, TL.fGetO, TL.odE, TL.keyD, TL.gApp2, TL.ooE, TL.gFrzO, TL.frzOE, TL.fLcO, TL.gOwnO, TL.fStar, TL.fCallK, TL.fCallFK, TL.permL, TL.eLc, TL.gAll, TL.gAllE, TL.fSlO, TL.fFrzL, TL.eFrzL, TL.fT, TL.truD, TL.isNN, TL.gExt, TL.asL, TL.gOoL, TL.allF, TL.fFrzO, TL.bFrzO, TL.gForApp, TL.fStp, TL.gPop, TL.divmodD, TL.fLrg, TL.eSlTo, TL.flatD, TL.bFrz, TL.gFrz, TL.fFrzL, TL.gRevO, TL.gClear, TL.gPopAt, TL.gIns, TL.ePop, TL.gAug, TL.gForE, TL.jSeq, TL.jRg1, TL.jRg2, TL.jEn, TL.iRg3, TL.iRvR, TL.vS, TL.fIxOd, TL.fGetO, TL.fDin, TL.fDinN, TL.odE, TL.gFrzD, TL.frzDE, TL.fKeys, TL.fVals, TL.fPairs, TL.f3, lp, hb]
  unfold fLc
  rw [hf, Option.bind_some, if_pos ⟨lr, by rfl⟩]
  exact e1
end K14
set_option Elab.async false
set_option linter.all false
set_option maxRecDepth 100000
namespace K14
open PySem PySem.Spec L2 TL AC
theorem ne_bools (b : Bool) : neD (.bool b) (.bool b) = some (.bool false) := by cases b <;> rfl
theorem eq_non (xs : List Nat) : eqD .none (.list (encN xs)) = some (.bool false) := by
  have p : (PyData.list (encN xs)).plain = true := PyData.plain_of_canLay0 _ (by
    simp only [PyData.canLay0]
    exact all_cl fun y m => by obtain ⟨z, _, rfl⟩ := List.mem_map.1 m; rfl)
  exact (if_pos (eqOk_of (a := .none) (b := .list (encN xs)) rfl p (.inl (by decide)))).trans rfl
theorem law_holds14 {n : Nat} {ps : List D} (hp : IsSrc n ps) (hn : n ≤ 1000) {m : Int} (m0 : 1 ≤ m) (m1 : m ≤ 40) :
    ∃ qs, M_law_holds [.ow ps, .sh (.int m)] = some (.bool true, [.ow qs, .sh (.int m)]) := by
  obtain ⟨P, q1, h1, w, i1⟩ := law_page hp (by omega) m0 m1
  obtain ⟨Q, q2, h2, wQ, i2⟩ := law_page i1 (by omega) m0 m1
  obtain ⟨xs, q3, h3, hx, i3⟩ := law_kept w i2 (by omega)
  obtain ⟨ys, q4, h4, hy, i4⟩ := law_kept w i3 (by omega)
  obtain ⟨r, q5, h5, r0, r1, i5⟩ := draw_s (m := 3) i4 (by omega) (by omega) (by omega)
  obtain ⟨k, hk⟩ := kind3 r0 r1
  obtain ⟨b, hb1, hb2⟩ := read_turned w hx k
  have le := w.le
  have ne := w.ne
  refine ⟨q5, ?_⟩
  have f1 := format_plan w
  have f2' := format_plan wQ
  have p2 := parse_plan wQ
  have t1 := eq_strs (plT P) (plT Q)
  rw [plT_inj w wQ] at t1
  have t2 := eqD_rows w wQ
  have t3 := ne_of_eq (eqD_rows wQ wQ)
  rw [decide_eq_true rfl] at t3
  have t3 : neD (.list (Q.map encR)) (.list (Q.map encR)) = some (.bool false) := t3
  have g1 := @groups_lc P w (.ow q2) (.sh (.int m)) (.sh (.str (plT P))) .un .un .un .un (.sh (.list (Q.map encR))) .un .un .un .un
  have c1 : scntD (.str (plT P)) (.str "one") = some (.int (((List.range P.length).countP fun i => decide (knd P i = Kd.one) : Nat) : Int)) := congrArg (fun z => some (PyData.int z)) (count_nm w .one)
  have c2 : scntD (.str (plT P)) (.str "tab") = some (.int (((List.range P.length).countP fun i => decide (knd P i = Kd.tab) : Nat) : Int)) := congrArg (fun z => some (PyData.int z)) (count_nm w .tab)
  have c3 : scntD (.str (plT P)) (.str "step") = some (.int (((List.range P.length).countP fun i => decide (knd P i = Kd.step) : Nat) : Int)) := congrArg (fun z => some (PyData.int z)) (count_nm w .step)
  have ck := kinds_all P (List.range P.length)
  rw [List.length_range] at ck
  have c4 : scntD (.str (plT P)) (.str "(") = some (.int (((ns P).length : Nat) : Int)) := congrArg (fun z => some (PyData.int z)) (count_open w)
  have c5 : scntD (.str (plT P)) (.str ")") = some (.int (((ns P).length : Nat) : Int)) := congrArg (fun z => some (PyData.int z)) (count_close w)
  have c6 : scntD (.str (plT P)) (.str " ") = some (.int (Txt.count (plT P) (Str.ofString " "))) := rfl
  have c6' := count_space w
  have c7 : scntD (.str (stT P xs)) (.str ":") = some (.int (((ns P).length : Nat) : Int)) := congrArg (fun z => some (PyData.int z)) (count_colon xs)
  have s1 := format_state w hx
  have s2 := format_state w hy
  have u1 := eq_strs (stT P xs) (stT P ys)
  rw [stT_inj w hx hy] at u1
  have u2 := eqD_st w hx hy
  have u3 := eqD_st w hx hx
  rw [decide_eq_true rfl] at u3
  have u4 := eq_non xs
  have lp : (P.map encR).length = P.length := by simp
  have lg : (encN (ns P)).length = (ns P).length := encN_len
  have ct : cutX (P.map encR) (some ((1 : Nat) : Int)) none = (P.drop 1).map encR := by rw [cutX_from, List.map_drop]
  have ct : cutX (P.map encR) (some 1) none = (P.drop 1).map encR := ct
  have tl' : ((P.drop 1).map encR).length ≤ 40 := by rw [List.length_map, List.length_drop]; omega
  have et : encP (turn P k) = .list (.tuple [.int 0, .str k.nm] :: (P.drop 1).map encR) := rfl
  have ad : addD (.list [.tuple [.int 0, .str k.nm]]) (.list ((P.drop 1).map encR)) = some (.list (.tuple [.int 0, .str k.nm] :: (P.drop 1).map encR)) := addD_list _ _ (by show 1 + _ ≤ 16777216; omega)
  have ep : encP P = .list (P.map encR) := rfl
  have eq : encP Q = .list (Q.map encR) := rfl
  obtain ⟨T, hT⟩ : ∃ T, T = SV.sh (.list (.tuple [.int 0, .str k.nm] :: (P.drop 1).map encR)) := ⟨_, rfl⟩
  have loop : ∀ s2 s3 s4 s5 s6 s9 s10 s11 : SV, Okk (forG (aNm 7) B_law_holds_1 (rngD 1 (P.length - 1)) [.ow q5, .sh (.int m), s2, s3, s4, s5, s6, .un, .sh (encP P), s9, s10, s11, .un, .un]) (fun r => ∃ t7 t12 t13, r = .nx [.ow q5, .sh (.int m), s2, s3, s4, s5, s6, t7, .sh (encP P), s9, s10, s11, t12, t13]) := by
    intro s2 s3 s4 s5 s6 s9 s10 s11
    refine forG_ok (n := 0) (fun j e => ∃ t7 t12 t13, e = [.ow q5, .sh (.int m), s2, s3, s4, s5, s6, t7, .sh (encP P), s9, s10, s11, t12, t13]) ⟨_, _, _, rfl⟩ ?_ ?_
    · rintro j d e hd ⟨t7, t12, t13, rfl⟩
      obtain ⟨hj, rfl⟩ := rngD_get hd
      have hc : (1 : Int) + (j : Int) = ((1 + j : Nat) : Int) := by omega
      rw [hc]
      obtain ⟨v12, v13, hb⟩ := @step_holds14 P w (1 + j) (by omega) (by omega) (.ow q5) (.sh (.int m)) s2 s3 s4 s5 s6 s9 s10 s11 t12 t13
      exact ⟨_, rfl, _, hb, _, _, _, rfl⟩
    · rintro e ⟨t7, t12, t13, rfl⟩
      exact ⟨_, _, _, rfl⟩
  have lb : P.length < 4611686018427387904 := by omega
  have lt : (((P.length : Nat) : Int) - 1).toNat = P.length - 1 := by omega
  have fr (s2 s3 s4 s5 s6 s9 s10 s11 : SV) : (iRg2 (fCons (fC (.int 1)) (fCons (fCall lenD (fCons (fVar 8) fNil)) fNil))) [.ow q5, .sh (.int m), s2, s3, s4, s5, s6, .un, .sh (encP P), s9, s10, s11, .un, .un] = some (rngD 1 (P.length - 1)) := by
    rw [ep]
    generalize P.map encR = pl at *
    rw [← lp] at lb lt ⊢
    simp [TL.gSeq, TL.gIf, TL.gSet, TL.gOwn, TL.gRet, TL.gRetF, TL.gRetO, TL.gNx, TL.gNo, TL.gBk, TL.gCt, TL.gAsg, TL.fVar, TL.fC, TL.f2, TL.f1, TL.fCons, TL.fNil, TL.fTup, TL.fLst, TL.fCall, TL.fCallF, TL.fTold, TL.fIf, TL.fAnd, TL.fOr, TL.fNot, TL.fMapD, TL.fB, TL.bOr, TL.bAnd, TL.bNot, TL.bYes, TL.fCh, TL.iSeq, TL.iRg1, TL.iRg2, TL.iEn, TL.iZp, TL.aNm, TL.aTup, TL.aCons, TL.aNil, TL.fSl, TL.pSome, TL.pNo, TL.asI, TL.asN, TL.asB, TL.ent, TL.mV, TL.mF, TL.outV, TL.outF, TL.tyNe, TL.tyEq, TL.tyN, TL.lenD, TL.addD_int, TL.subD_int, TL.ltD_int, TL.leD_int, TL.gtD_int, TL.geD_int, TL.negD_int, TL.eqD_int, TL.neD_int, Function.comp_apply, TL.pur, TL.e2, TL.eTold, TL.eLst, TL.eCons, TL.eNil, TL.eTup, TL.eCall, TL.eCallF, TL.eB, TL.eNot, TL.eOr, TL.eAnd, TL.eIf, TL.eFrz, TL.fFrz, TL.frzE, TL.mgE, TL.gPar, TL.vT, TL.vF, TL.vNil, TL.stE, TL.gSetE, TL.gOwnE, TL.gIfE, TL.gRetE, TL.gRetFE, TL.gAppE, TL.gPutE, TL.gPut, TL.gApp, TL.gAsgE, TL.gDropE, TL.ownE, TL.fIxO, TL.eCallG, TL.eCallGF, TL.agSlot, TL.agVal, TL.agTmp, TL.agNil, TL.okAgs, TL.okSlots, TL.toSV, TL.backE, TL.isOw, TL.apart, TL.mE, TL.mEF, TL.outE, TL.outEF, TL.endE, TL.parE, TL.kpOk, List.range, List.range.loop, TL.gDict0, TL.gDPut, TL.fGetO, TL.odE, TL.keyD, TL.gApp2, TL.ooE, TL.gFrzO, TL.frzOE, TL.fLcO, TL.gOwnO, TL.fStar, TL.fCallK, TL.fCallFK, TL.permL, TL.eLc, TL.gAll, TL.gAllE, TL.fSlO, TL.fFrzL, TL.eFrzL, TL.fT, TL.truD, TL.isNN, TL.gExt, TL.asL, TL.gOoL, TL.allF, TL.fFrzO, TL.bFrzO, TL.gForApp, TL.fStp, TL.gPop, TL.divmodD, TL.fLrg, TL.eSlTo, TL.flatD, TL.bFrz, TL.gFrz, TL.fFrzL, TL.gRevO, TL.gClear, TL.gPopAt, TL.gIns, TL.ePop, TL.gAug, TL.gForE, TL.jSeq, TL.jRg1, TL.jRg2, TL.jEn, TL.iRg3, TL.iRvR, TL.vS, TL.fIxOd, TL.fGetO, TL.fDin, TL.fDinN, TL.odE, TL.gFrzD, TL.frzDE, TL.fKeys, TL.fVals, TL.fPairs, TL.f3, lb, lt]
  have lgi : (((encN (ns P)).length : Nat) : Int) = ((ns P).length : Nat) := by rw [lg]
  have lpi : (((P.map encR).length : Nat) : Int) = (P.length : Int) := by rw [lp]
  have cs : (((List.range P.length).countP fun i => decide (knd P i = Kd.one) : Nat) : Int) + (((List.range P.length).countP fun i => decide (knd P i = Kd.tab) : Nat) : Int) + (((List.range P.length).countP fun i => decide (knd P i = Kd.step) : Nat) : Int) = (P.length : Int) := by omega
  rw [ep] at f1 h3 h4 s1 s2 g1 loop fr
  rw [eq] at f2'
  rw [et] at hb1 hb2
  clear ep eq et
  generalize (P.drop 1).map encR = rD at *
  generalize P.map encR = rP at *
  generalize Q.map encR = rQ at *
  generalize decide (P = Q) = bpq at *
  generalize decide (xs = ys) = bxy at *
  generalize plT P = tP at *
  generalize plT Q = tQ at *
  generalize stT P xs = sx at *
  generalize stT P ys = sy at *
  generalize encN xs = ex at *
  generalize encN ys = ey at *
  generalize encN (ns P) = gs at *
  generalize (((List.range P.length).countP fun i => decide (knd P i = Kd.one) : Nat) : Int) = n1 at *
  generalize (((List.range P.length).countP fun i => decide (knd P i = Kd.tab) : Nat) : Int) = n2 at *
  generalize (((List.range P.length).countP fun i => decide (knd P i = Kd.step) : Nat) : Int) = n3 at *
  generalize Txt.count tP (Str.ofString " ") = n4 at *
  generalize (((ns P).length : Nat) : Int) = ng at *
  generalize hnp : ((P.length : Nat) : Int) = np at *
  have lg0 : lenD [.list gs] = some (.int ng) := by rw [← lgi]; rfl
  have lp0 : lenD [.list rP] = some (.int np) := by rw [← lpi]; rfl
  have l1 : (1 : Nat) ≤ LN := by decide
  have l2 : (2 : Nat) ≤ LN := by decide
  have l3 : (3 : Nat) ≤ LN := by decide
  obtain ⟨R, hR⟩ : ∃ R, R = (if b = true then PyData.list ex else .none) := ⟨_, rfl⟩
  rw [← hR] at hb2
  have nb := ne_bools
  have G2 : (gIf (bOr (fB (f2 neD (f2 eqD (fCall (fun ds => if ds.length = 1 then M_format_plan ds else none) (fCons (fVar 8) fNil)) (fCall (fun ds => if ds.length = 1 then M_format_plan ds else none) (fCons (fVar 9) fNil))) (f2 eqD (fVar 8) (fVar 9)))) (fB (f2 neD (fTold (fCallF (fun ds => if ds.length = 1 then M_parse_plan ds else none) (fCons (fCall (fun ds => if ds.length = 1 then M_format_plan ds else none) (fCons (fVar 9) fNil)) fNil))) (fVar 9)))) (gRet (fC (.bool false))) gNx) [.ow q2, .sh (.int m), .un, .un, .un, .un, .un, .un, .sh (.list rP), .sh (.list rQ), .un, .un, .un, .un] = some (.nx [.ow q2, .sh (.int m), .un, .un, .un, .un, .un, .un, .sh (.list rP), .sh (.list rQ), .un, .un, .un, .un]) := by
    simp [TL.gSeq, TL.gIf, TL.gSet, TL.gOwn, TL.gRet, TL.gRetF, TL.gRetO, TL.gNx, TL.gNo, TL.gBk, TL.gCt, TL.gAsg, TL.fVar, TL.fC, TL.f2, TL.f1, TL.fCons, TL.fNil, TL.fTup, TL.fLst, TL.fCall, TL.fCallF, TL.fTold, TL.fIf, TL.fAnd, TL.fOr, TL.fNot, TL.fMapD, TL.fB, TL.bOr, TL.bAnd, TL.bNot, TL.bYes, TL.fCh, TL.iSeq, TL.iRg1, TL.iRg2, TL.iEn, TL.iZp, TL.aNm, TL.aTup, TL.aCons, TL.aNil, TL.fSl, TL.pSome, TL.pNo, TL.asI, TL.asN, TL.asB, TL.ent, TL.mV, TL.mF, TL.outV, TL.outF, TL.tyNe, TL.tyEq, TL.tyN, TL.lenD, TL.addD_int, TL.subD_int, TL.ltD_int, TL.leD_int, TL.gtD_int, TL.geD_int, TL.negD_int, TL.eqD_int, TL.neD_int, Function.comp_apply, TL.pur, TL.e2, TL.eTold, TL.eLst, TL.eCons, TL.eNil, TL.eTup, TL.eCall, TL.eCallF, TL.eB, TL.eNot, TL.eOr, TL.eAnd, TL.eIf, TL.eFrz, TL.fFrz, TL.frzE, TL.mgE, TL.gPar, TL.vT, TL.vF, TL.vNil, TL.stE, TL.gSetE, TL.gOwnE, TL.gIfE, TL.gRetE, TL.gRetFE, TL.gAppE, TL.gPutE, TL.gPut, TL.gApp, TL.gAsgE, TL.gDropE, TL.ownE, TL.fIxO, TL.eCallG, TL.eCallGF, TL.agSlot, TL.agVal, TL.agTmp, TL.agNil, TL.okAgs, TL.okSlots, TL.toSV, TL.backE, TL.isOw, TL.apart, TL.mE, TL.mEF, TL.outE, TL.outEF, TL.endE, TL.parE, TL.kpOk, List.range, List.range.loop, TL.gDict0, TL.gDPut, TL.fGetO, TL.odE, TL.keyD, TL.gApp2, TL.ooE, TL.gFrzO, TL.frzOE, TL.fLcO, TL.gOwnO, TL.fStar, TL.fCallK, TL.fCallFK, TL.permL, TL.eLc, TL.gAll, TL.gAllE, TL.fSlO, TL.fFrzL, TL.eFrzL, TL.fT, TL.truD, TL.isNN, TL.gExt, TL.asL, TL.gOoL, TL.allF, TL.fFrzO, TL.bFrzO, TL.gForApp, TL.fStp, TL.gPop, TL.divmodD, TL.fLrg, TL.eSlTo, TL.flatD, TL.bFrz, TL.gFrz, TL.fFrzL, TL.gRevO, TL.gClear, TL.gPopAt, TL.gIns, TL.ePop, TL.gAug, TL.gForE, TL.jSeq, TL.jRg1, TL.jRg2, TL.jEn, TL.iRg3, TL.iRvR, TL.vS, TL.fIxOd, TL.fGetO, TL.fDin, TL.fDinN, TL.odE, TL.gFrzD, TL.frzDE, TL.fKeys, TL.fVals, TL.fPairs, TL.f3, f1, f2', t1, t2, nb, p2, t3]
  have G6 : (gIf (bOr (fB (f2 neD (fVar 4) (fCall lenD (fCons (fVar 8) fNil)))) (bOr (fB (f2 neD (f2 scntD (fVar 2) (fC (.str "("))) (fFrz 3 (fCall lenD (fCons (fVar 3) fNil))))) (fB (f2 neD (f2 scntD (fVar 2) (fC (.str ")"))) (fFrz 3 (fCall lenD (fCons (fVar 3) fNil))))))) (gRet (fC (.bool false))) gNx) [.ow q2, .sh (.int m), .sh (.str tP), .ow gs, .sh (.int np), .un, .un, .un, .sh (.list rP), .sh (.list rQ), .un, .un, .un, .un] = some (.nx [.ow q2, .sh (.int m), .sh (.str tP), .ow gs, .sh (.int np), .un, .un, .un, .sh (.list rP), .sh (.list rQ), .un, .un, .un, .un]) := by
    simp [TL.gSeq, TL.gIf, TL.gSet, TL.gOwn, TL.gRet, TL.gRetF, TL.gRetO, TL.gNx, TL.gNo, TL.gBk, TL.gCt, TL.gAsg, TL.fVar, TL.fC, TL.f2, TL.f1, TL.fCons, TL.fNil, TL.fTup, TL.fLst, TL.fCall, TL.fCallF, TL.fTold, TL.fIf, TL.fAnd, TL.fOr, TL.fNot, TL.fMapD, TL.fB, TL.bOr, TL.bAnd, TL.bNot, TL.bYes, TL.fCh, TL.iSeq, TL.iRg1, TL.iRg2, TL.iEn, TL.iZp, TL.aNm, TL.aTup, TL.aCons, TL.aNil, TL.fSl, TL.pSome, TL.pNo, TL.asI, TL.asN, TL.asB, TL.ent, TL.mV, TL.mF, TL.outV, TL.outF, TL.tyNe, TL.tyEq, TL.tyN, TL.lenD, TL.addD_int, TL.subD_int, TL.ltD_int, TL.leD_int, TL.gtD_int, TL.geD_int, TL.negD_int, TL.eqD_int, TL.neD_int, Function.comp_apply, TL.pur, TL.e2, TL.eTold, TL.eLst, TL.eCons, TL.eNil, TL.eTup, TL.eCall, TL.eCallF, TL.eB, TL.eNot, TL.eOr, TL.eAnd, TL.eIf, TL.eFrz, TL.fFrz, TL.frzE, TL.mgE, TL.gPar, TL.vT, TL.vF, TL.vNil, TL.stE, TL.gSetE, TL.gOwnE, TL.gIfE, TL.gRetE, TL.gRetFE, TL.gAppE, TL.gPutE, TL.gPut, TL.gApp, TL.gAsgE, TL.gDropE, TL.ownE, TL.fIxO, TL.eCallG, TL.eCallGF, TL.agSlot, TL.agVal, TL.agTmp, TL.agNil, TL.okAgs, TL.okSlots, TL.toSV, TL.backE, TL.isOw, TL.apart, TL.mE, TL.mEF, TL.outE, TL.outEF, TL.endE, TL.parE, TL.kpOk, List.range, List.range.loop, TL.gDict0, TL.gDPut, TL.fGetO, TL.odE, TL.keyD, TL.gApp2, TL.ooE, TL.gFrzO, TL.frzOE, TL.fLcO, TL.gOwnO, TL.fStar, TL.fCallK, TL.fCallFK, TL.permL, TL.eLc, TL.gAll, TL.gAllE, TL.fSlO, TL.fFrzL, TL.eFrzL, TL.fT, TL.truD, TL.isNN, TL.gExt, TL.asL, TL.gOoL, TL.allF, TL.fFrzO, TL.bFrzO, TL.gForApp, TL.fStp, TL.gPop, TL.divmodD, TL.fLrg, TL.eSlTo, TL.flatD, TL.bFrz, TL.gFrz, TL.fFrzL, TL.gRevO, TL.gClear, TL.gPopAt, TL.gIns, TL.ePop, TL.gAug, TL.gForE, TL.jSeq, TL.jRg1, TL.jRg2, TL.jEn, TL.iRg3, TL.iRvR, TL.vS, TL.fIxOd, TL.fGetO, TL.fDin, TL.fDinN, TL.odE, TL.gFrzD, TL.frzDE, TL.fKeys, TL.fVals, TL.fPairs, TL.f3, lpi, lgi, c4, c5]
  have G7 : (gIf (fB (f2 neD (f2 addD (f2 scntD (fVar 2) (fC (.str " "))) (fFrz 3 (fCall lenD (fCons (fVar 3) fNil)))) (f2 subD (fCall lenD (fCons (fVar 8) fNil)) (fC (.int 1))))) (gRet (fC (.bool false))) gNx) [.ow q2, .sh (.int m), .sh (.str tP), .ow gs, .sh (.int np), .un, .un, .un, .sh (.list rP), .sh (.list rQ), .un, .un, .un, .un] = some (.nx [.ow q2, .sh (.int m), .sh (.str tP), .ow gs, .sh (.int np), .un, .un, .un, .sh (.list rP), .sh (.list rQ), .un, .un, .un, .un]) := by
    simp [TL.gSeq, TL.gIf, TL.gSet, TL.gOwn, TL.gRet, TL.gRetF, TL.gRetO, TL.gNx, TL.gNo, TL.gBk, TL.gCt, TL.gAsg, TL.fVar, TL.fC, TL.f2, TL.f1, TL.fCons, TL.fNil, TL.fTup, TL.fLst, TL.fCall, TL.fCallF, TL.fTold, TL.fIf, TL.fAnd, TL.fOr, TL.fNot, TL.fMapD, TL.fB, TL.bOr, TL.bAnd, TL.bNot, TL.bYes, TL.fCh, TL.iSeq, TL.iRg1, TL.iRg2, TL.iEn, TL.iZp, TL.aNm, TL.aTup, TL.aCons, TL.aNil, TL.fSl, TL.pSome, TL.pNo, TL.asI, TL.asN, TL.asB, TL.ent, TL.mV, TL.mF, TL.outV, TL.outF, TL.tyNe, TL.tyEq, TL.tyN, TL.lenD, TL.addD_int, TL.subD_int, TL.ltD_int, TL.leD_int, TL.gtD_int, TL.geD_int, TL.negD_int, TL.eqD_int, TL.neD_int, Function.comp_apply, TL.pur, TL.e2, TL.eTold, TL.eLst, TL.eCons, TL.eNil, TL.eTup, TL.eCall, TL.eCallF, TL.eB, TL.eNot, TL.eOr, TL.eAnd, TL.eIf, TL.eFrz, TL.fFrz, TL.frzE, TL.mgE, TL.gPar, TL.vT, TL.vF, TL.vNil, TL.stE, TL.gSetE, TL.gOwnE, TL.gIfE, TL.gRetE, TL.gRetFE, TL.gAppE, TL.gPutE, TL.gPut, TL.gApp, TL.gAsgE, TL.gDropE, TL.ownE, TL.fIxO, TL.eCallG, TL.eCallGF, TL.agSlot, TL.agVal, TL.agTmp, TL.agNil, TL.okAgs, TL.okSlots, TL.toSV, TL.backE, TL.isOw, TL.apart, TL.mE, TL.mEF, TL.outE, TL.outEF, TL.endE, TL.parE, TL.kpOk, List.range, List.range.loop, TL.gDict0, TL.gDPut, TL.fGetO, TL.odE, TL.keyD, TL.gApp2, TL.ooE, TL.gFrzO, TL.frzOE, TL.fLcO, TL.gOwnO, TL.fStar, TL.fCallK, TL.fCallFK, TL.permL, TL.eLc, TL.gAll, TL.gAllE, TL.fSlO, TL.fFrzL, TL.eFrzL, TL.fT, TL.truD, TL.isNN, TL.gExt, TL.asL, TL.gOoL, TL.allF, TL.fFrzO, TL.bFrzO, TL.gForApp, TL.fStp, TL.gPop, TL.divmodD, TL.fLrg, TL.eSlTo, TL.flatD, TL.bFrz, TL.gFrz, TL.fFrzL, TL.gRevO, TL.gClear, TL.gPopAt, TL.gIns, TL.ePop, TL.gAug, TL.gForE, TL.jSeq, TL.jRg1, TL.jRg2, TL.jEn, TL.iRg3, TL.iRvR, TL.vS, TL.fIxOd, TL.fGetO, TL.fDin, TL.fDinN, TL.odE, TL.gFrzD, TL.frzDE, TL.fKeys, TL.fVals, TL.fPairs, TL.f3, lpi, lgi, c6, c6']
  have G9 : (gIf (fB (f2 neD (f2 eqD (fCall (fun ds => if ds.length = 2 then M_format_state ds else none) (fCons (fVar 8) (fCons (fVar 10) fNil))) (fCall (fun ds => if ds.length = 2 then M_format_state ds else none) (fCons (fVar 8) (fCons (fVar 11) fNil)))) (f2 eqD (fVar 10) (fVar 11)))) (gRet (fC (.bool false))) gNx) [.ow q4, .sh (.int m), .sh (.str tP), .ow gs, .sh (.int np), .un, .un, .un, .sh (.list rP), .sh (.list rQ), .sh (.list ex), .sh (.list ey), .un, .un] = some (.nx [.ow q4, .sh (.int m), .sh (.str tP), .ow gs, .sh (.int np), .un, .un, .un, .sh (.list rP), .sh (.list rQ), .sh (.list ex), .sh (.list ey), .un, .un]) := by
    simp [TL.gSeq, TL.gIf, TL.gSet, TL.gOwn, TL.gRet, TL.gRetF, TL.gRetO, TL.gNx, TL.gNo, TL.gBk, TL.gCt, TL.gAsg, TL.fVar, TL.fC, TL.f2, TL.f1, TL.fCons, TL.fNil, TL.fTup, TL.fLst, TL.fCall, TL.fCallF, TL.fTold, TL.fIf, TL.fAnd, TL.fOr, TL.fNot, TL.fMapD, TL.fB, TL.bOr, TL.bAnd, TL.bNot, TL.bYes, TL.fCh, TL.iSeq, TL.iRg1, TL.iRg2, TL.iEn, TL.iZp, TL.aNm, TL.aTup, TL.aCons, TL.aNil, TL.fSl, TL.pSome, TL.pNo, TL.asI, TL.asN, TL.asB, TL.ent, TL.mV, TL.mF, TL.outV, TL.outF, TL.tyNe, TL.tyEq, TL.tyN, TL.lenD, TL.addD_int, TL.subD_int, TL.ltD_int, TL.leD_int, TL.gtD_int, TL.geD_int, TL.negD_int, TL.eqD_int, TL.neD_int, Function.comp_apply, TL.pur, TL.e2, TL.eTold, TL.eLst, TL.eCons, TL.eNil, TL.eTup, TL.eCall, TL.eCallF, TL.eB, TL.eNot, TL.eOr, TL.eAnd, TL.eIf, TL.eFrz, TL.fFrz, TL.frzE, TL.mgE, TL.gPar, TL.vT, TL.vF, TL.vNil, TL.stE, TL.gSetE, TL.gOwnE, TL.gIfE, TL.gRetE, TL.gRetFE, TL.gAppE, TL.gPutE, TL.gPut, TL.gApp, TL.gAsgE, TL.gDropE, TL.ownE, TL.fIxO, TL.eCallG, TL.eCallGF, TL.agSlot, TL.agVal, TL.agTmp, TL.agNil, TL.okAgs, TL.okSlots, TL.toSV, TL.backE, TL.isOw, TL.apart, TL.mE, TL.mEF, TL.outE, TL.outEF, TL.endE, TL.parE, TL.kpOk, List.range, List.range.loop, TL.gDict0, TL.gDPut, TL.fGetO, TL.odE, TL.keyD, TL.gApp2, TL.ooE, TL.gFrzO, TL.frzOE, TL.fLcO, TL.gOwnO, TL.fStar, TL.fCallK, TL.fCallFK, TL.permL, TL.eLc, TL.gAll, TL.gAllE, TL.fSlO, TL.fFrzL, TL.eFrzL, TL.fT, TL.truD, TL.isNN, TL.gExt, TL.asL, TL.gOoL, TL.allF, TL.fFrzO, TL.bFrzO, TL.gForApp, TL.fStp, TL.gPop, TL.divmodD, TL.fLrg, TL.eSlTo, TL.flatD, TL.bFrz, TL.gFrz, TL.fFrzL, TL.gRevO, TL.gClear, TL.gPopAt, TL.gIns, TL.ePop, TL.gAug, TL.gForE, TL.jSeq, TL.jRg1, TL.jRg2, TL.jEn, TL.iRg3, TL.iRvR, TL.vS, TL.fIxOd, TL.fGetO, TL.fDin, TL.fDinN, TL.odE, TL.gFrzD, TL.frzDE, TL.fKeys, TL.fVals, TL.fPairs, TL.f3, s1, s2, u1, u2, nb]
  have G10 : (gIf (fB (f2 neD (f2 scntD (fCall (fun ds => if ds.length = 2 then M_format_state ds else none) (fCons (fVar 8) (fCons (fVar 10) fNil))) (fC (.str ":"))) (fFrz 3 (fCall lenD (fCons (fVar 3) fNil))))) (gRet (fC (.bool false))) gNx) [.ow q4, .sh (.int m), .sh (.str tP), .ow gs, .sh (.int np), .un, .un, .un, .sh (.list rP), .sh (.list rQ), .sh (.list ex), .sh (.list ey), .un, .un] = some (.nx [.ow q4, .sh (.int m), .sh (.str tP), .ow gs, .sh (.int np), .un, .un, .un, .sh (.list rP), .sh (.list rQ), .sh (.list ex), .sh (.list ey), .un, .un]) := by
    simp [TL.gSeq, TL.gIf, TL.gSet, TL.gOwn, TL.gRet, TL.gRetF, TL.gRetO, TL.gNx, TL.gNo, TL.gBk, TL.gCt, TL.gAsg, TL.fVar, TL.fC, TL.f2, TL.f1, TL.fCons, TL.fNil, TL.fTup, TL.fLst, TL.fCall, TL.fCallF, TL.fTold, TL.fIf, TL.fAnd, TL.fOr, TL.fNot, TL.fMapD, TL.fB, TL.bOr, TL.bAnd, TL.bNot, TL.bYes, TL.fCh, TL.iSeq, TL.iRg1, TL.iRg2, TL.iEn, TL.iZp, TL.aNm, TL.aTup, TL.aCons, TL.aNil, TL.fSl, TL.pSome, TL.pNo, TL.asI, TL.asN, TL.asB, TL.ent, TL.mV, TL.mF, TL.outV, TL.outF, TL.tyNe, TL.tyEq, TL.tyN, TL.lenD, TL.addD_int, TL.subD_int, TL.ltD_int, TL.leD_int, TL.gtD_int, TL.geD_int, TL.negD_int, TL.eqD_int, TL.neD_int, Function.comp_apply, TL.pur, TL.e2, TL.eTold, TL.eLst, TL.eCons, TL.eNil, TL.eTup, TL.eCall, TL.eCallF, TL.eB, TL.eNot, TL.eOr, TL.eAnd, TL.eIf, TL.eFrz, TL.fFrz, TL.frzE, TL.mgE, TL.gPar, TL.vT, TL.vF, TL.vNil, TL.stE, TL.gSetE, TL.gOwnE, TL.gIfE, TL.gRetE, TL.gRetFE, TL.gAppE, TL.gPutE, TL.gPut, TL.gApp, TL.gAsgE, TL.gDropE, TL.ownE, TL.fIxO, TL.eCallG, TL.eCallGF, TL.agSlot, TL.agVal, TL.agTmp, TL.agNil, TL.okAgs, TL.okSlots, TL.toSV, TL.backE, TL.isOw, TL.apart, TL.mE, TL.mEF, TL.outE, TL.outEF, TL.endE, TL.parE, TL.kpOk, List.range, List.range.loop, TL.gDict0, TL.gDPut, TL.fGetO, TL.odE, TL.keyD, TL.gApp2, TL.ooE, TL.gFrzO, TL.frzOE, TL.fLcO, TL.gOwnO, TL.fStar, TL.fCallK, TL.fCallFK, TL.permL, TL.eLc, TL.gAll, TL.gAllE, TL.fSlO, TL.fFrzL, TL.eFrzL, TL.fT, TL.truD, TL.isNN, TL.gExt, TL.asL, TL.gOoL, TL.allF, TL.fFrzO, TL.bFrzO, TL.gForApp, TL.fStp, TL.gPop, TL.divmodD, TL.fLrg, TL.eSlTo, TL.flatD, TL.bFrz, TL.gFrz, TL.fFrzL, TL.gRevO, TL.gClear, TL.gPopAt, TL.gIns, TL.ePop, TL.gAug, TL.gForE, TL.jSeq, TL.jRg1, TL.jRg2, TL.jEn, TL.iRg3, TL.iRvR, TL.vS, TL.fIxOd, TL.fGetO, TL.fDin, TL.fDinN, TL.odE, TL.gFrzD, TL.frzDE, TL.fKeys, TL.fVals, TL.fPairs, TL.f3, s1, c7, lgi]
  have G13 : (gIf (bOr (fB (f2 neD (f2 eqD (fVar 6) (fVar 10)) (fCall (fun ds => if ds.length = 2 then M_is_state ds else none) (fCons (fVar 5) (fCons (fVar 10) fNil))))) (fB (f2 neD (fMapD isN (fVar 6)) (fNot (fCall (fun ds => if ds.length = 2 then M_is_state ds else none) (fCons (fVar 5) (fCons (fVar 10) fNil))))))) (gRet (fC (.bool false))) gNx) [.ow q5, .sh (.int m), .sh (.str tP), .ow gs, .sh (.int np), .sh (.list (.tuple [.int 0, .str k.nm] :: rD)), .sh R, .un, .sh (.list rP), .sh (.list rQ), .sh (.list ex), .sh (.list ey), .un, .un] = some (.nx [.ow q5, .sh (.int m), .sh (.str tP), .ow gs, .sh (.int np), .sh (.list (.tuple [.int 0, .str k.nm] :: rD)), .sh R, .un, .sh (.list rP), .sh (.list rQ), .sh (.list ex), .sh (.list ey), .un, .un]) := by
    generalize PyData.tuple [.int 0, .str k.nm] :: rD = td at *
    subst hR
    have n1 := nb true
    have n2 := nb false
    have i1 : isN (.list ex) = .bool false := rfl
    have i2 : isN .none = .bool true := rfl
    cases b <;> simp [TL.gSeq, TL.gIf, TL.gSet, TL.gOwn, TL.gRet, TL.gRetF, TL.gRetO, TL.gNx, TL.gNo, TL.gBk, TL.gCt, TL.gAsg, TL.fVar, TL.fC, TL.f2, TL.f1, TL.fCons, TL.fNil, TL.fTup, TL.fLst, TL.fCall, TL.fCallF, TL.fTold, TL.fIf, TL.fAnd, TL.fOr, TL.fNot, TL.fMapD, TL.fB, TL.bOr, TL.bAnd, TL.bNot, TL.bYes, TL.fCh, TL.iSeq, TL.iRg1, TL.iRg2, TL.iEn, TL.iZp, TL.aNm, TL.aTup, TL.aCons, TL.aNil, TL.fSl, TL.pSome, TL.pNo, TL.asI, TL.asN, TL.asB, TL.ent, TL.mV, TL.mF, TL.outV, TL.outF, TL.tyNe, TL.tyEq, TL.tyN, TL.lenD, TL.addD_int, TL.subD_int, TL.ltD_int, TL.leD_int, TL.gtD_int, TL.geD_int, TL.negD_int, TL.eqD_int, TL.neD_int, Function.comp_apply, TL.pur, TL.e2, TL.eTold, TL.eLst, TL.eCons, TL.eNil, TL.eTup, TL.eCall, TL.eCallF, TL.eB, TL.eNot, TL.eOr, TL.eAnd, TL.eIf, TL.eFrz, TL.fFrz, TL.frzE, TL.mgE, TL.gPar, TL.vT, TL.vF, TL.vNil, TL.stE, TL.gSetE, TL.gOwnE, TL.gIfE, TL.gRetE, TL.gRetFE, TL.gAppE, TL.gPutE, TL.gPut, TL.gApp, TL.gAsgE, TL.gDropE, TL.ownE, TL.fIxO, TL.eCallG, TL.eCallGF, TL.agSlot, TL.agVal, TL.agTmp, TL.agNil, TL.okAgs, TL.okSlots, TL.toSV, TL.backE, TL.isOw, TL.apart, TL.mE, TL.mEF, TL.outE, TL.outEF, TL.endE, TL.parE, TL.kpOk, List.range, List.range.loop, TL.gDict0, TL.gDPut, TL.fGetO, TL.odE, TL.keyD, TL.gApp2, TL.ooE, TL.gFrzO, TL.frzOE, TL.fLcO, TL.gOwnO, TL.fStar, TL.fCallK, TL.fCallFK, TL.permL, TL.eLc, TL.gAll, TL.gAllE, TL.fSlO, TL.fFrzL, TL.eFrzL, TL.fT, TL.truD, TL.isNN, TL.gExt, TL.asL, TL.gOoL, TL.allF, TL.fFrzO, TL.bFrzO, TL.gForApp, TL.fStp, TL.gPop, TL.divmodD, TL.fLrg, TL.eSlTo, TL.flatD, TL.bFrz, TL.gFrz, TL.fFrzL, TL.gRevO, TL.gClear, TL.gPopAt, TL.gIns, TL.ePop, TL.gAug, TL.gForE, TL.jSeq, TL.jRg1, TL.jRg2, TL.jEn, TL.iRg3, TL.iRvR, TL.vS, TL.fIxOd, TL.fGetO, TL.fDin, TL.fDinN, TL.odE, TL.gFrzD, TL.frzDE, TL.fKeys, TL.fVals, TL.fPairs, TL.f3, u3, u4, hb1, n1, n2, i1, i2]
  obtain ⟨rl, hl, t7, t12, t13, rfl⟩ := loop (.sh (.str tP)) (.ow gs) (.sh (.int np)) (.sh (.list (.tuple [.int 0, .str k.nm] :: rD))) (.sh R) (.sh (.list rQ)) (.sh (.list ex)) (.sh (.list ey))
  have fr1 := fr (.sh (.str tP)) (.ow gs) (.sh (.int np)) (.sh (.list (.tuple [.int 0, .str k.nm] :: rD))) (.sh R) (.sh (.list rQ)) (.sh (.list ex)) (.sh (.list ey))
  have GL : L_law_holds_1 [.ow q5, .sh (.int m), .sh (.str tP), .ow gs, .sh (.int np), .sh (.list (.tuple [.int 0, .str k.nm] :: rD)), .sh R, .un, .sh (.list rP), .sh (.list rQ), .sh (.list ex), .sh (.list ey), .un, .un] = some (.nx [.ow q5, .sh (.int m), .sh (.str tP), .ow gs, .sh (.int np), .sh (.list (.tuple [.int 0, .str k.nm] :: rD)), .sh R, t7, .sh (.list rP), .sh (.list rQ), .sh (.list ex), .sh (.list ey), t12, t13]) := by
    unfold L_law_holds_1 gFor
    rw [fr1]
    exact hl
  have hG : G_law_holds [.ow ps, .sh (.int m), .un, .un, .un, .un, .un, .un, .un, .un, .un, .un, .un, .un] = some (.rt (.bool true) [.ow q5, .sh (.int m), .sh (.str tP), .ow gs, .sh (.int np), .sh (.list (.tuple [.int 0, .str k.nm] :: rD)), .sh R, t7, .sh (.list rP), .sh (.list rQ), .sh (.list ex), .sh (.list ey), t12, t13]) := by
    unfold G_law_holds
    refine (gSeq_nx (e' := [.ow q2, .sh (.int m), .un, .un, .un, .un, .un, .un, .sh (.list rP), .sh (.list rQ), .un, .un, .un, .un]) (by simp [TL.gSeq, TL.gIf, TL.gSet, TL.gOwn, TL.gRet, TL.gRetF, TL.gRetO, TL.gNx, TL.gNo, TL.gBk, TL.gCt, TL.gAsg, TL.fVar, TL.fC, TL.f2, TL.f1, TL.fCons, TL.fNil, TL.fTup, TL.fLst, TL.fCall, TL.fCallF, TL.fTold, TL.fIf, TL.fAnd, TL.fOr, TL.fNot, TL.fMapD, TL.fB, TL.bOr, TL.bAnd, TL.bNot, TL.bYes, TL.fCh, TL.iSeq, TL.iRg1, TL.iRg2, TL.iEn, TL.iZp, TL.aNm, TL.aTup, TL.aCons, TL.aNil, TL.fSl, TL.pSome, TL.pNo, TL.asI, TL.asN, TL.asB, TL.ent, TL.mV, TL.mF, TL.outV, TL.outF, TL.tyNe, TL.tyEq, TL.tyN, TL.lenD, TL.addD_int, TL.subD_int, TL.ltD_int, TL.leD_int, TL.gtD_int, TL.geD_int, TL.negD_int, TL.eqD_int, TL.neD_int, Function.comp_apply, TL.pur, TL.e2, TL.eTold, TL.eLst, TL.eCons, TL.eNil, TL.eTup, TL.eCall, TL.eCallF, TL.eB, TL.eNot, TL.eOr, TL.eAnd, TL.eIf, TL.eFrz, TL.fFrz, TL.frzE, TL.mgE, TL.gPar, TL.vT, TL.vF, TL.vNil, TL.stE, TL.gSetE, TL.gOwnE, TL.gIfE, TL.gRetE, TL.gRetFE, TL.gAppE, TL.gPutE, TL.gPut, TL.gApp, TL.gAsgE, TL.gDropE, TL.ownE, TL.fIxO, TL.eCallG, TL.eCallGF, TL.agSlot, TL.agVal, TL.agTmp, TL.agNil, TL.okAgs, TL.okSlots, TL.toSV, TL.backE, TL.isOw, TL.apart, TL.mE, TL.mEF, TL.outE, TL.outEF, TL.endE, TL.parE, TL.kpOk, List.range, List.range.loop, TL.gDict0, TL.gDPut, TL.fGetO, TL.odE, TL.keyD, TL.gApp2, TL.ooE, TL.gFrzO, TL.frzOE, TL.fLcO, TL.gOwnO, TL.fStar, TL.fCallK, TL.fCallFK, TL.permL, TL.eLc, TL.gAll, TL.gAllE, TL.fSlO, TL.fFrzL, TL.eFrzL, TL.fT, TL.truD, TL.isNN, TL.gExt, TL.asL, TL.gOoL, TL.allF, TL.fFrzO, TL.bFrzO, TL.gForApp, TL.fStp, TL.gPop, TL.divmodD, TL.fLrg, TL.eSlTo, TL.flatD, TL.bFrz, TL.gFrz, TL.fFrzL, TL.gRevO, TL.gClear, TL.gPopAt, TL.gIns, TL.ePop, TL.gAug, TL.gForE, TL.jSeq, TL.jRg1, TL.jRg2, TL.jEn, TL.iRg3, TL.iRvR, TL.vS, TL.fIxOd, TL.fGetO, TL.fDin, TL.fDinN, TL.odE, TL.gFrzD, TL.frzDE, TL.fKeys, TL.fVals, TL.fPairs, TL.f3, h1, h2, l2])).trans ?_
    refine (gSeq_nx G2).trans ?_
    refine (gSeq_nx (e' := [.ow q2, .sh (.int m), .sh (.str tP), .un, .un, .un, .un, .un, .sh (.list rP), .sh (.list rQ), .un, .un, .un, .un]) (by simp [TL.gSeq, TL.gIf, TL.gSet, TL.gOwn, TL.gRet, TL.gRetF, TL.gRetO, TL.gNx, TL.gNo, TL.gBk, TL.gCt, TL.gAsg, TL.fVar, TL.fC, TL.f2, TL.f1, TL.fCons, TL.fNil, TL.fTup, TL.fLst, TL.fCall, TL.fCallF, TL.fTold, TL.fIf, TL.fAnd, TL.fOr, TL.fNot, TL.fMapD, TL.fB, TL.bOr, TL.bAnd, TL.bNot, TL.bYes, TL.fCh, TL.iSeq, TL.iRg1, TL.iRg2, TL.iEn, TL.iZp, TL.aNm, TL.aTup, TL.aCons, TL.aNil, TL.fSl, TL.pSome, TL.pNo, TL.asI, TL.asN, TL.asB, TL.ent, TL.mV, TL.mF, TL.outV, TL.outF, TL.tyNe, TL.tyEq, TL.tyN, TL.lenD, TL.addD_int, TL.subD_int, TL.ltD_int, TL.leD_int, TL.gtD_int, TL.geD_int, TL.negD_int, TL.eqD_int, TL.neD_int, Function.comp_apply, TL.pur, TL.e2, TL.eTold, TL.eLst, TL.eCons, TL.eNil, TL.eTup, TL.eCall, TL.eCallF, TL.eB, TL.eNot, TL.eOr, TL.eAnd, TL.eIf, TL.eFrz, TL.fFrz, TL.frzE, TL.mgE, TL.gPar, TL.vT, TL.vF, TL.vNil, TL.stE, TL.gSetE, TL.gOwnE, TL.gIfE, TL.gRetE, TL.gRetFE, TL.gAppE, TL.gPutE, TL.gPut, TL.gApp, TL.gAsgE, TL.gDropE, TL.ownE, TL.fIxO, TL.eCallG, TL.eCallGF, TL.agSlot, TL.agVal, TL.agTmp, TL.agNil, TL.okAgs, TL.okSlots, TL.toSV, TL.backE, TL.isOw, TL.apart, TL.mE, TL.mEF, TL.outE, TL.outEF, TL.endE, TL.parE, TL.kpOk, List.range, List.range.loop, TL.gDict0, TL.gDPut, TL.fGetO, TL.odE, TL.keyD, TL.gApp2, TL.ooE, TL.gFrzO, TL.frzOE, TL.fLcO, TL.gOwnO, TL.fStar, TL.fCallK, TL.fCallFK, TL.permL, TL.eLc, TL.gAll, TL.gAllE, TL.fSlO, TL.fFrzL, TL.eFrzL, TL.fT, TL.truD, TL.isNN, TL.gExt, TL.asL, TL.gOoL, TL.allF, TL.fFrzO, TL.bFrzO, TL.gForApp, TL.fStp, TL.gPop, TL.divmodD, TL.fLrg, TL.eSlTo, TL.flatD, TL.bFrz, TL.gFrz, TL.fFrzL, TL.gRevO, TL.gClear, TL.gPopAt, TL.gIns, TL.ePop, TL.gAug, TL.gForE, TL.jSeq, TL.jRg1, TL.jRg2, TL.jEn, TL.iRg3, TL.iRvR, TL.vS, TL.fIxOd, TL.fGetO, TL.fDin, TL.fDinN, TL.odE, TL.gFrzD, TL.frzDE, TL.fKeys, TL.fVals, TL.fPairs, TL.f3, f1])).trans ?_
    refine (gSeq_nx (e' := [.ow q2, .sh (.int m), .sh (.str tP), .ow gs, .un, .un, .un, .un, .sh (.list rP), .sh (.list rQ), .un, .un, .un, .un]) ?_).trans ?_
    · unfold gOwn
      rw [g1]; rfl
    refine (gSeq_nx (e' := [.ow q2, .sh (.int m), .sh (.str tP), .ow gs, .sh (.int np), .un, .un, .un, .sh (.list rP), .sh (.list rQ), .un, .un, .un, .un]) (by simp [TL.gSeq, TL.gIf, TL.gSet, TL.gOwn, TL.gRet, TL.gRetF, TL.gRetO, TL.gNx, TL.gNo, TL.gBk, TL.gCt, TL.gAsg, TL.fVar, TL.fC, TL.f2, TL.f1, TL.fCons, TL.fNil, TL.fTup, TL.fLst, TL.fCall, TL.fCallF, TL.fTold, TL.fIf, TL.fAnd, TL.fOr, TL.fNot, TL.fMapD, TL.fB, TL.bOr, TL.bAnd, TL.bNot, TL.bYes, TL.fCh, TL.iSeq, TL.iRg1, TL.iRg2, TL.iEn, TL.iZp, TL.aNm, TL.aTup, TL.aCons, TL.aNil, TL.fSl, TL.pSome, TL.pNo, TL.asI, TL.asN, TL.asB, TL.ent, TL.mV, TL.mF, TL.outV, TL.outF, TL.tyNe, TL.tyEq, TL.tyN, TL.lenD, TL.addD_int, TL.subD_int, TL.ltD_int, TL.leD_int, TL.gtD_int, TL.geD_int, TL.negD_int, TL.eqD_int, TL.neD_int, Function.comp_apply, TL.pur, TL.e2, TL.eTold, TL.eLst, TL.eCons, TL.eNil, TL.eTup, TL.eCall, TL.eCallF, TL.eB, TL.eNot, TL.eOr, TL.eAnd, TL.eIf, TL.eFrz, TL.fFrz, TL.frzE, TL.mgE, TL.gPar, TL.vT, TL.vF, TL.vNil, TL.stE, TL.gSetE, TL.gOwnE, TL.gIfE, TL.gRetE, TL.gRetFE, TL.gAppE, TL.gPutE, TL.gPut, TL.gApp, TL.gAsgE, TL.gDropE, TL.ownE, TL.fIxO, TL.eCallG, TL.eCallGF, TL.agSlot, TL.agVal, TL.agTmp, TL.agNil, TL.okAgs, TL.okSlots, TL.toSV, TL.backE, TL.isOw, TL.apart, TL.mE, TL.mEF, TL.outE, TL.outEF, TL.endE, TL.parE, TL.kpOk, List.range, List.range.loop, TL.gDict0, TL.gDPut, TL.fGetO, TL.odE, TL.keyD, TL.gApp2, TL.ooE, TL.gFrzO, TL.frzOE, TL.fLcO, TL.gOwnO, TL.fStar, TL.fCallK, TL.fCallFK, TL.permL, TL.eLc, TL.gAll, TL.gAllE, TL.fSlO, TL.fFrzL, TL.eFrzL, TL.fT, TL.truD, TL.isNN, TL.gExt, TL.asL, TL.gOoL, TL.allF, TL.fFrzO, TL.bFrzO, TL.gForApp, TL.fStp, TL.gPop, TL.divmodD, TL.fLrg, TL.eSlTo, TL.flatD, TL.bFrz, TL.gFrz, TL.fFrzL, TL.gRevO, TL.gClear, TL.gPopAt, TL.gIns, TL.ePop, TL.gAug, TL.gForE, TL.jSeq, TL.jRg1, TL.jRg2, TL.jEn, TL.iRg3, TL.iRvR, TL.vS, TL.fIxOd, TL.fGetO, TL.fDin, TL.fDinN, TL.odE, TL.gFrzD, TL.frzDE, TL.fKeys, TL.fVals, TL.fPairs, TL.f3, c1, c2, c3, cs])).trans ?_
    refine (gSeq_nx G6).trans ?_
    refine (gSeq_nx G7).trans ?_
    refine (gSeq_nx (e' := [.ow q4, .sh (.int m), .sh (.str tP), .ow gs, .sh (.int np), .un, .un, .un, .sh (.list rP), .sh (.list rQ), .sh (.list ex), .sh (.list ey), .un, .un]) (by simp [TL.gSeq, TL.gIf, TL.gSet, TL.gOwn, TL.gRet, TL.gRetF, TL.gRetO, TL.gNx, TL.gNo, TL.gBk, TL.gCt, TL.gAsg, TL.fVar, TL.fC, TL.f2, TL.f1, TL.fCons, TL.fNil, TL.fTup, TL.fLst, TL.fCall, TL.fCallF, TL.fTold, TL.fIf, TL.fAnd, TL.fOr, TL.fNot, TL.fMapD, TL.fB, TL.bOr, TL.bAnd, TL.bNot, TL.bYes, TL.fCh, TL.iSeq, TL.iRg1, TL.iRg2, TL.iEn, TL.iZp, TL.aNm, TL.aTup, TL.aCons, TL.aNil, TL.fSl, TL.pSome, TL.pNo, TL.asI, TL.asN, TL.asB, TL.ent, TL.mV, TL.mF, TL.outV, TL.outF, TL.tyNe, TL.tyEq, TL.tyN, TL.lenD, TL.addD_int, TL.subD_int, TL.ltD_int, TL.leD_int, TL.gtD_int, TL.geD_int, TL.negD_int, TL.eqD_int, TL.neD_int, Function.comp_apply, TL.pur, TL.e2, TL.eTold, TL.eLst, TL.eCons, TL.eNil, TL.eTup, TL.eCall, TL.eCallF, TL.eB, TL.eNot, TL.eOr, TL.eAnd, TL.eIf, TL.eFrz, TL.fFrz, TL.frzE, TL.mgE, TL.gPar, TL.vT, TL.vF, TL.vNil, TL.stE, TL.gSetE, TL.gOwnE, TL.gIfE, TL.gRetE, TL.gRetFE, TL.gAppE, TL.gPutE, TL.gPut, TL.gApp, TL.gAsgE, TL.gDropE, TL.ownE, TL.fIxO, TL.eCallG, TL.eCallGF, TL.agSlot, TL.agVal, TL.agTmp, TL.agNil, TL.okAgs, TL.okSlots, TL.toSV, TL.backE, TL.isOw, TL.apart, TL.mE, TL.mEF, TL.outE, TL.outEF, TL.endE, TL.parE, TL.kpOk, List.range, List.range.loop, TL.gDict0, TL.gDPut, TL.fGetO, TL.odE, TL.keyD, TL.gApp2, TL.ooE, TL.gFrzO, TL.frzOE, TL.fLcO, TL.gOwnO, TL.fStar, TL.fCallK, TL.fCallFK, TL.permL, TL.eLc, TL.gAll, TL.gAllE, TL.fSlO, TL.fFrzL, TL.eFrzL, TL.fT, TL.truD, TL.isNN, TL.gExt, TL.asL, TL.gOoL, TL.allF, TL.fFrzO, TL.bFrzO, TL.gForApp, TL.fStp, TL.gPop, TL.divmodD, TL.fLrg, TL.eSlTo, TL.flatD, TL.bFrz, TL.gFrz, TL.fFrzL, TL.gRevO, TL.gClear, TL.gPopAt, TL.gIns, TL.ePop, TL.gAug, TL.gForE, TL.jSeq, TL.jRg1, TL.jRg2, TL.jEn, TL.iRg3, TL.iRvR, TL.vS, TL.fIxOd, TL.fGetO, TL.fDin, TL.fDinN, TL.odE, TL.gFrzD, TL.frzDE, TL.fKeys, TL.fVals, TL.fPairs, TL.f3, h3, h4])).trans ?_
    refine (gSeq_nx G9).trans ?_
    refine (gSeq_nx G10).trans ?_
    refine (gSeq_nx (e' := [.ow q5, .sh (.int m), .sh (.str tP), .ow gs, .sh (.int np), .sh (.list (.tuple [.int 0, .str k.nm] :: rD)), .un, .un, .sh (.list rP), .sh (.list rQ), .sh (.list ex), .sh (.list ey), .un, .un]) (by simp [TL.gSeq, TL.gIf, TL.gSet, TL.gOwn, TL.gRet, TL.gRetF, TL.gRetO, TL.gNx, TL.gNo, TL.gBk, TL.gCt, TL.gAsg, TL.fVar, TL.fC, TL.f2, TL.f1, TL.fCons, TL.fNil, TL.fTup, TL.fLst, TL.fCall, TL.fCallF, TL.fTold, TL.fIf, TL.fAnd, TL.fOr, TL.fNot, TL.fMapD, TL.fB, TL.bOr, TL.bAnd, TL.bNot, TL.bYes, TL.fCh, TL.iSeq, TL.iRg1, TL.iRg2, TL.iEn, TL.iZp, TL.aNm, TL.aTup, TL.aCons, TL.aNil, TL.fSl, TL.pSome, TL.pNo, TL.asI, TL.asN, TL.asB, TL.ent, TL.mV, TL.mF, TL.outV, TL.outF, TL.tyNe, TL.tyEq, TL.tyN, TL.lenD, TL.addD_int, TL.subD_int, TL.ltD_int, TL.leD_int, TL.gtD_int, TL.geD_int, TL.negD_int, TL.eqD_int, TL.neD_int, Function.comp_apply, TL.pur, TL.e2, TL.eTold, TL.eLst, TL.eCons, TL.eNil, TL.eTup, TL.eCall, TL.eCallF, TL.eB, TL.eNot, TL.eOr, TL.eAnd, TL.eIf, TL.eFrz, TL.fFrz, TL.frzE, TL.mgE, TL.gPar, TL.vT, TL.vF, TL.vNil, TL.stE, TL.gSetE, TL.gOwnE, TL.gIfE, TL.gRetE, TL.gRetFE, TL.gAppE, TL.gPutE, TL.gPut, TL.gApp, TL.gAsgE, TL.gDropE, TL.ownE, TL.fIxO, TL.eCallG, TL.eCallGF, TL.agSlot, TL.agVal, TL.agTmp, TL.agNil, TL.okAgs, TL.okSlots, TL.toSV, TL.backE, TL.isOw, TL.apart, TL.mE, TL.mEF, TL.outE, TL.outEF, TL.endE, TL.parE, TL.kpOk, List.range, List.range.loop, TL.gDict0, TL.gDPut, TL.fGetO, TL.odE, TL.keyD, TL.gApp2, TL.ooE, TL.gFrzO, TL.frzOE, TL.fLcO, TL.gOwnO, TL.fStar, TL.fCallK, TL.fCallFK, TL.permL, TL.eLc, TL.gAll, TL.gAllE, TL.fSlO, TL.fFrzL, TL.eFrzL, TL.fT, TL.truD, TL.isNN, TL.gExt, TL.asL, TL.gOoL, TL.allF, TL.fFrzO, TL.bFrzO, TL.gForApp, TL.fStp, TL.gPop, TL.divmodD, TL.fLrg, TL.eSlTo, TL.flatD, TL.bFrz, TL.gFrz, TL.fFrzL, TL.gRevO, TL.gClear, TL.gPopAt, TL.gIns, TL.ePop, TL.gAug, TL.gForE, TL.jSeq, TL.jRg1, TL.jRg2, TL.jEn, TL.iRg3, TL.iRvR, TL.vS, TL.fIxOd, TL.fGetO, TL.fDin, TL.fDinN, TL.odE, TL.gFrzD, TL.frzDE, TL.fKeys, TL.fVals, TL.fPairs, TL.f3, h5, hk, ct, ad, l1, l2, l3])).trans ?_
    refine (gSeq_nx (e' := [.ow q5, .sh (.int m), .sh (.str tP), .ow gs, .sh (.int np), .sh (.list (.tuple [.int 0, .str k.nm] :: rD)), .sh R, .un, .sh (.list rP), .sh (.list rQ), .sh (.list ex), .sh (.list ey), .un, .un]) (by simp [TL.gSeq, TL.gIf, TL.gSet, TL.gOwn, TL.gRet, TL.gRetF, TL.gRetO, TL.gNx, TL.gNo, TL.gBk, TL.gCt, TL.gAsg, TL.fVar, TL.fC, TL.f2, TL.f1, TL.fCons, TL.fNil, TL.fTup, TL.fLst, TL.fCall, TL.fCallF, TL.fTold, TL.fIf, TL.fAnd, TL.fOr, TL.fNot, TL.fMapD, TL.fB, TL.bOr, TL.bAnd, TL.bNot, TL.bYes, TL.fCh, TL.iSeq, TL.iRg1, TL.iRg2, TL.iEn, TL.iZp, TL.aNm, TL.aTup, TL.aCons, TL.aNil, TL.fSl, TL.pSome, TL.pNo, TL.asI, TL.asN, TL.asB, TL.ent, TL.mV, TL.mF, TL.outV, TL.outF, TL.tyNe, TL.tyEq, TL.tyN, TL.lenD, TL.addD_int, TL.subD_int, TL.ltD_int, TL.leD_int, TL.gtD_int, TL.geD_int, TL.negD_int, TL.eqD_int, TL.neD_int, Function.comp_apply, TL.pur, TL.e2, TL.eTold, TL.eLst, TL.eCons, TL.eNil, TL.eTup, TL.eCall, TL.eCallF, TL.eB, TL.eNot, TL.eOr, TL.eAnd, TL.eIf, TL.eFrz, TL.fFrz, TL.frzE, TL.mgE, TL.gPar, TL.vT, TL.vF, TL.vNil, TL.stE, TL.gSetE, TL.gOwnE, TL.gIfE, TL.gRetE, TL.gRetFE, TL.gAppE, TL.gPutE, TL.gPut, TL.gApp, TL.gAsgE, TL.gDropE, TL.ownE, TL.fIxO, TL.eCallG, TL.eCallGF, TL.agSlot, TL.agVal, TL.agTmp, TL.agNil, TL.okAgs, TL.okSlots, TL.toSV, TL.backE, TL.isOw, TL.apart, TL.mE, TL.mEF, TL.outE, TL.outEF, TL.endE, TL.parE, TL.kpOk, List.range, List.range.loop, TL.gDict0, TL.gDPut, TL.fGetO, TL.odE, TL.keyD, TL.gApp2, TL.ooE, TL.gFrzO, TL.frzOE, TL.fLcO, TL.gOwnO, TL.fStar, TL.fCallK, TL.fCallFK, TL.permL, TL.eLc, TL.gAll, TL.gAllE, TL.fSlO, TL.fFrzL, TL.eFrzL, TL.fT, TL.truD, TL.isNN, TL.gExt, TL.asL, TL.gOoL, TL.allF, TL.fFrzO, TL.bFrzO, TL.gForApp, TL.fStp, TL.gPop, TL.divmodD, TL.fLrg, TL.eSlTo, TL.flatD, TL.bFrz, TL.gFrz, TL.fFrzL, TL.gRevO, TL.gClear, TL.gPopAt, TL.gIns, TL.ePop, TL.gAug, TL.gForE, TL.jSeq, TL.jRg1, TL.jRg2, TL.jEn, TL.iRg3, TL.iRvR, TL.vS, TL.fIxOd, TL.fGetO, TL.fDin, TL.fDinN, TL.odE, TL.gFrzD, TL.frzDE, TL.fKeys, TL.fVals, TL.fPairs, TL.f3, s1, hb2])).trans ?_
    refine (gSeq_nx G13).trans ?_
    refine (gSeq_nx GL).trans ?_
    simp [TL.gSeq, TL.gIf, TL.gSet, TL.gOwn, TL.gRet, TL.gRetF, TL.gRetO, TL.gNx, TL.gNo, TL.gBk, TL.gCt, TL.gAsg, TL.fVar, TL.fC, TL.f2, TL.f1, TL.fCons, TL.fNil, TL.fTup, TL.fLst, TL.fCall, TL.fCallF, TL.fTold, TL.fIf, TL.fAnd, TL.fOr, TL.fNot, TL.fMapD, TL.fB, TL.bOr, TL.bAnd, TL.bNot, TL.bYes, TL.fCh, TL.iSeq, TL.iRg1, TL.iRg2, TL.iEn, TL.iZp, TL.aNm, TL.aTup, TL.aCons, TL.aNil, TL.fSl, TL.pSome, TL.pNo, TL.asI, TL.asN, TL.asB, TL.ent, TL.mV, TL.mF, TL.outV, TL.outF, TL.tyNe, TL.tyEq, TL.tyN, TL.lenD, TL.addD_int, TL.subD_int, TL.ltD_int, TL.leD_int, TL.gtD_int, TL.geD_int, TL.negD_int, TL.eqD_int, TL.neD_int, Function.comp_apply, TL.pur, TL.e2, TL.eTold, TL.eLst, TL.eCons, TL.eNil, TL.eTup, TL.eCall, TL.eCallF, TL.eB, TL.eNot, TL.eOr, TL.eAnd, TL.eIf, TL.eFrz, TL.fFrz, TL.frzE, TL.mgE, TL.gPar, TL.vT, TL.vF, TL.vNil, TL.stE, TL.gSetE, TL.gOwnE, TL.gIfE, TL.gRetE, TL.gRetFE, TL.gAppE, TL.gPutE, TL.gPut, TL.gApp, TL.gAsgE, TL.gDropE, TL.ownE, TL.fIxO, TL.eCallG, TL.eCallGF, TL.agSlot, TL.agVal, TL.agTmp, TL.agNil, TL.okAgs, TL.okSlots, TL.toSV, TL.backE, TL.isOw, TL.apart, TL.mE, TL.mEF, TL.outE, TL.outEF, TL.endE, TL.parE, TL.kpOk, List.range, List.range.loop, TL.gDict0, TL.gDPut, TL.fGetO, TL.odE, TL.keyD, TL.gApp2, TL.ooE, TL.gFrzO, TL.frzOE, TL.fLcO, TL.gOwnO, TL.fStar, TL.fCallK, TL.fCallFK, TL.permL, TL.eLc, TL.gAll, TL.gAllE, TL.fSlO, TL.fFrzL, TL.eFrzL, TL.fT, TL.truD, TL.isNN, TL.gExt, TL.asL, TL.gOoL, TL.allF, TL.fFrzO, TL.bFrzO, TL.gForApp, TL.fStp, TL.gPop, TL.divmodD, TL.fLrg, TL.eSlTo, TL.flatD, TL.bFrz, TL.gFrz, TL.fFrzL, TL.gRevO, TL.gClear, TL.gPopAt, TL.gIns, TL.ePop, TL.gAug, TL.gForE, TL.jSeq, TL.jRg1, TL.jRg2, TL.jEn, TL.iRg3, TL.iRvR, TL.vS, TL.fIxOd, TL.fGetO, TL.fDin, TL.fDinN, TL.odE, TL.gFrzD, TL.frzDE, TL.fKeys, TL.fVals, TL.fPairs, TL.f3, ]
  unfold M_law_holds
  generalize G_law_holds = GG at *
  simp [TL.gSeq, TL.gIf, TL.gSet, TL.gOwn, TL.gRet, TL.gRetF, TL.gRetO, TL.gNx, TL.gNo, TL.gBk, TL.gCt, TL.gAsg, TL.fVar, TL.fC, TL.f2, TL.f1, TL.fCons, TL.fNil, TL.fTup, TL.fLst, TL.fCall, TL.fCallF, TL.fTold, TL.fIf, TL.fAnd, TL.fOr, TL.fNot, TL.fMapD, TL.fB, TL.bOr, TL.bAnd, TL.bNot, TL.bYes, TL.fCh, TL.iSeq, TL.iRg1, TL.iRg2, TL.iEn, TL.iZp, TL.aNm, TL.aTup, TL.aCons, TL.aNil, TL.fSl, TL.pSome, TL.pNo, TL.asI, TL.asN, TL.asB, TL.ent, TL.mV, TL.mF, TL.outV, TL.outF, TL.tyNe, TL.tyEq, TL.tyN, TL.lenD, TL.addD_int, TL.subD_int, TL.ltD_int, TL.leD_int, TL.gtD_int, TL.geD_int, TL.negD_int, TL.eqD_int, TL.neD_int, Function.comp_apply, TL.pur, TL.e2, TL.eTold, TL.eLst, TL.eCons, TL.eNil, TL.eTup, TL.eCall, TL.eCallF, TL.eB, TL.eNot, TL.eOr, TL.eAnd, TL.eIf, TL.eFrz, TL.fFrz, TL.frzE, TL.mgE, TL.gPar, TL.vT, TL.vF, TL.vNil, TL.stE, TL.gSetE, TL.gOwnE, TL.gIfE, TL.gRetE, TL.gRetFE, TL.gAppE, TL.gPutE, TL.gPut, TL.gApp, TL.gAsgE, TL.gDropE, TL.ownE, TL.fIxO, TL.eCallG, TL.eCallGF, TL.agSlot, TL.agVal, TL.agTmp, TL.agNil, TL.okAgs, TL.okSlots, TL.toSV, TL.backE, TL.isOw, TL.apart, TL.mE, TL.mEF, TL.outE, TL.outEF, TL.endE, TL.parE, TL.kpOk, List.range, List.range.loop, hG]
end K14
set_option Elab.async false
set_option linter.all false
set_option maxRecDepth 100000
namespace K14
open PySem PySem.Spec L2 TL AC
theorem cell_step14 {ns : List Int} {c : Int} {k : Nat} (hk : k ≤ 100) : B_law_1 [.sh (.list (ns.map .int)), .sh (.int (k : Int)), .sh (.int c)] = some (.nx [.sh (.list (ns.map .int)), .sh (.int (k : Int)), .sh (.int c)]) := by
  obtain ⟨xs, h1, h2⟩ := source_s c k hk
  obtain ⟨m, hm, m0, m1⟩ : ∃ m : Int, (if ns.isEmpty = true then (7 : Int) else 40) = m ∧ 1 ≤ m ∧ m ≤ 40 := ⟨_, rfl, by split <;> decide, by split <;> decide⟩
  obtain ⟨q, h3⟩ := law_holds14 h2 (by omega) m0 m1
  have e1 := eq_nil (ns := ns)
  have l0 : (0 : Nat) ≤ LN := Nat.zero_le _
  generalize ns.map PyData.int = sc at *
  generalize ns.isEmpty = b at *
  generalize (k : Int) = kk at *
  cases b
  · have : (40 : Int) = m := hm
    subst this
    simp [TL.gSeq, TL.gIf, TL.gSet, TL.gOwn, TL.gRet, TL.gRetF, TL.gRetO, TL.gNx, TL.gNo, TL.gBk, TL.gCt, TL.gAsg, TL.fVar, TL.fC, TL.f2, TL.f1, TL.fCons, TL.fNil, TL.fTup, TL.fLst, TL.fCall, TL.fCallF, TL.fTold, TL.fIf, TL.fAnd, TL.fOr, TL.fNot, TL.fMapD, TL.fB, TL.bOr, TL.bAnd, TL.bNot, TL.bYes, TL.fCh, TL.iSeq, TL.iRg1, TL.iRg2, TL.iEn, TL.iZp, TL.aNm, TL.aTup, TL.aCons, TL.aNil, TL.fSl, TL.pSome, TL.pNo, TL.asI, TL.asN, TL.asB, TL.ent, TL.mV, TL.mF, TL.outV, TL.outF, TL.tyNe, TL.tyEq, TL.tyN, TL.lenD, TL.addD_int, TL.subD_int, TL.ltD_int, TL.leD_int, TL.gtD_int, TL.geD_int, TL.negD_int, TL.eqD_int, TL.neD_int, Function.comp_apply, TL.pur, TL.e2, TL.eTold, TL.eLst, TL.eCons, TL.eNil, TL.eTup, TL.eCall, TL.eCallF, TL.eB, TL.eNot, TL.eOr, TL.eAnd, TL.eIf, TL.eFrz, TL.fFrz, TL.frzE, TL.mgE, TL.gPar, TL.vT, TL.vF, TL.vNil, TL.stE, TL.gSetE, TL.gOwnE, TL.gIfE, TL.gRetE, TL.gRetFE, TL.gAppE, TL.gPutE, TL.gPut, TL.gApp, TL.gAsgE, TL.gDropE, TL.ownE, TL.fIxO, TL.eCallG, TL.eCallGF, TL.agSlot, TL.agVal, TL.agTmp, TL.agNil, TL.okAgs, TL.okSlots, TL.toSV, TL.backE, TL.isOw, TL.apart, TL.mE, TL.mEF, TL.outE, TL.outEF, TL.endE, TL.parE, TL.kpOk, List.range, List.range.loop, TL.gDict0, TL.gDPut, TL.fGetO, TL.odE, TL.keyD, TL.gApp2, TL.ooE, TL.gFrzO, TL.frzOE, TL.fLcO, TL.gOwnO, TL.fStar, TL.fCallK, TL.fCallFK, TL.permL, TL.eLc, TL.gAll, TL.gAllE, TL.fSlO, TL.fFrzL, TL.eFrzL, TL.fT, TL.truD, TL.isNN, TL.gExt, TL.asL, TL.gOoL, TL.allF, TL.fFrzO, TL.bFrzO, TL.gForApp, TL.fStp, TL.gPop, TL.divmodD, TL.fLrg, TL.eSlTo, TL.flatD, TL.bFrz, TL.gFrz, TL.fFrzL, TL.gRevO, TL.gClear, TL.gPopAt, TL.gIns, TL.ePop, TL.gAug, TL.gForE, TL.jSeq, TL.jRg1, TL.jRg2, TL.jEn, TL.iRg3, TL.iRvR, TL.vS, TL.fIxOd, TL.fGetO, TL.fDin, TL.fDinN, TL.odE, TL.gFrzD, TL.frzDE, TL.fKeys, TL.fVals, TL.fPairs, TL.f3, B_law_1, h1, h3, e1, l0, Ag.isTmp]
  · have : (7 : Int) = m := hm
    subst this
    simp [TL.gSeq, TL.gIf, TL.gSet, TL.gOwn, TL.gRet, TL.gRetF, TL.gRetO, TL.gNx, TL.gNo, TL.gBk, TL.gCt, TL.gAsg, TL.fVar, TL.fC, TL.f2, TL.f1, TL.fCons, TL.fNil, TL.fTup, TL.fLst, TL.fCall, TL.fCallF, TL.fTold, TL.fIf, TL.fAnd, TL.fOr, TL.fNot, TL.fMapD, TL.fB, TL.bOr, TL.bAnd, TL.bNot, TL.bYes, TL.fCh, TL.iSeq, TL.iRg1, TL.iRg2, TL.iEn, TL.iZp, TL.aNm, TL.aTup, TL.aCons, TL.aNil, TL.fSl, TL.pSome, TL.pNo, TL.asI, TL.asN, TL.asB, TL.ent, TL.mV, TL.mF, TL.outV, TL.outF, TL.tyNe, TL.tyEq, TL.tyN, TL.lenD, TL.addD_int, TL.subD_int, TL.ltD_int, TL.leD_int, TL.gtD_int, TL.geD_int, TL.negD_int, TL.eqD_int, TL.neD_int, Function.comp_apply, TL.pur, TL.e2, TL.eTold, TL.eLst, TL.eCons, TL.eNil, TL.eTup, TL.eCall, TL.eCallF, TL.eB, TL.eNot, TL.eOr, TL.eAnd, TL.eIf, TL.eFrz, TL.fFrz, TL.frzE, TL.mgE, TL.gPar, TL.vT, TL.vF, TL.vNil, TL.stE, TL.gSetE, TL.gOwnE, TL.gIfE, TL.gRetE, TL.gRetFE, TL.gAppE, TL.gPutE, TL.gPut, TL.gApp, TL.gAsgE, TL.gDropE, TL.ownE, TL.fIxO, TL.eCallG, TL.eCallGF, TL.agSlot, TL.agVal, TL.agTmp, TL.agNil, TL.okAgs, TL.okSlots, TL.toSV, TL.backE, TL.isOw, TL.apart, TL.mE, TL.mEF, TL.outE, TL.outEF, TL.endE, TL.parE, TL.kpOk, List.range, List.range.loop, TL.gDict0, TL.gDPut, TL.fGetO, TL.odE, TL.keyD, TL.gApp2, TL.ooE, TL.gFrzO, TL.frzOE, TL.fLcO, TL.gOwnO, TL.fStar, TL.fCallK, TL.fCallFK, TL.permL, TL.eLc, TL.gAll, TL.gAllE, TL.fSlO, TL.fFrzL, TL.eFrzL, TL.fT, TL.truD, TL.isNN, TL.gExt, TL.asL, TL.gOoL, TL.allF, TL.fFrzO, TL.bFrzO, TL.gForApp, TL.fStp, TL.gPop, TL.divmodD, TL.fLrg, TL.eSlTo, TL.flatD, TL.bFrz, TL.gFrz, TL.fFrzL, TL.gRevO, TL.gClear, TL.gPopAt, TL.gIns, TL.ePop, TL.gAug, TL.gForE, TL.jSeq, TL.jRg1, TL.jRg2, TL.jEn, TL.iRg3, TL.iRvR, TL.vS, TL.fIxOd, TL.fGetO, TL.fDin, TL.fDinN, TL.odE, TL.gFrzD, TL.frzDE, TL.fKeys, TL.fVals, TL.fPairs, TL.f3, B_law_1, h1, h3, e1, l0, Ag.isTmp]
theorem top {ns : List Int} (hl : ns.length ≤ 63) : M_law [.list (ns.map .int)] = some (.bool true) := by
  obtain ⟨m1, hm1, hm2⟩ : ∃ m1 : Int, minD [.int (ns.length : Int), .int 10] = some (.int m1) ∧ m1 ≤ 10 := by
    refine ⟨_, minD_int _ _, ?_⟩; split <;> omega
  obtain ⟨m2, hm3, hm4, hm5⟩ : ∃ m2 : Int, maxD [.int 1, .int m1] = some (.int m2) ∧ 1 ≤ m2 ∧ m2 ≤ 10 := by
    refine ⟨_, maxD_int _ _, ?_, ?_⟩ <;> split <;> omega
  obtain ⟨u, rfl⟩ : ∃ u : Nat, m2 = (u : Int) := ⟨m2.toNat, by omega⟩
  have ce : cutX (ns.map PyData.int ++ [.int 0]) none (some (u : Int)) = ((ns ++ [0]).take u).map PyData.int := by
    rw [cutX_to, List.map_take, List.map_append]; rfl
  have cl : ((ns ++ [0]).take u).length ≤ 12 := by rw [List.length_take]; omega
  have loop : Okk (forG (aTup 2 (aCons (aNm 1) (aCons (aNm 2) aNil))) B_law_1 (enumD (((ns ++ [0]).take u).map PyData.int)) [.sh (.list (ns.map .int)), .un, .un]) (fun r => ∃ s1 s2, r = .nx [.sh (.list (ns.map .int)), s1, s2]) := by
    refine forG_ok (n := 0) (fun n e => ∃ s1 s2, e = [.sh (.list (ns.map .int)), s1, s2]) ⟨_, _, rfl⟩ ?_ ?_
    · rintro i d e hd ⟨s1, s2, rfl⟩
      obtain ⟨x, hx, rfl⟩ := enumD_get hd
      rw [List.getElem?_map] at hx
      obtain ⟨c, hc, rfl⟩ := Option.map_eq_some_iff.1 hx
      have hi := (List.getElem?_eq_some_iff.1 hc).1
      exact ⟨_, rfl, _, cell_step14 (ns := ns) (c := c) (k := i) (by omega), _, _, rfl⟩
    · rintro e ⟨s1, s2, rfl⟩
      exact ⟨_, _, rfl⟩
  obtain ⟨r, h1, s1, s2, rfl⟩ := loop
  have l1 : (ns.map PyData.int).length = ns.length := by simp
  have l2 : (1 : Nat) ≤ LN := by decide
  have ad : addD (.list (ns.map PyData.int)) (.list [.int 0]) = some (.list (ns.map PyData.int ++ [.int 0])) := addD_list _ _ (by rw [l1]; show _ ≤ 16777216; simp; omega)
  generalize ((ns ++ [0]).take u).map PyData.int = zs at *
  generalize ns.map PyData.int ++ [.int 0] = s9 at *
  generalize ns.map PyData.int = sc at *
  generalize hv : (u : Int) = v at *
  simp [TL.gSeq, TL.gIf, TL.gSet, TL.gOwn, TL.gRet, TL.gRetF, TL.gRetO, TL.gNx, TL.gNo, TL.gBk, TL.gCt, TL.gAsg, TL.fVar, TL.fC, TL.f2, TL.f1, TL.fCons, TL.fNil, TL.fTup, TL.fLst, TL.fCall, TL.fCallF, TL.fTold, TL.fIf, TL.fAnd, TL.fOr, TL.fNot, TL.fMapD, TL.fB, TL.bOr, TL.bAnd, TL.bNot, TL.bYes, TL.fCh, TL.iSeq, TL.iRg1, TL.iRg2, TL.iEn, TL.iZp, TL.aNm, TL.aTup, TL.aCons, TL.aNil, TL.fSl, TL.pSome, TL.pNo, TL.asI, TL.asN, TL.asB, TL.ent, TL.mV, TL.mF, TL.outV, TL.outF, TL.tyNe, TL.tyEq, TL.tyN, TL.lenD, TL.addD_int, TL.subD_int, TL.ltD_int, TL.leD_int, TL.gtD_int, TL.geD_int, TL.negD_int, TL.eqD_int, TL.neD_int, Function.comp_apply, TL.pur, TL.e2, TL.eTold, TL.eLst, TL.eCons, TL.eNil, TL.eTup, TL.eCall, TL.eCallF, TL.eB, TL.eNot, TL.eOr, TL.eAnd, TL.eIf, TL.eFrz, TL.fFrz, TL.frzE, TL.mgE, TL.gPar, TL.vT, TL.vF, TL.vNil, TL.stE, TL.gSetE, TL.gOwnE, TL.gIfE, TL.gRetE, TL.gRetFE, TL.gAppE, TL.gPutE, TL.gPut, TL.gApp, TL.gAsgE, TL.gDropE, TL.ownE, TL.fIxO, TL.eCallG, TL.eCallGF, TL.agSlot, TL.agVal, TL.agTmp, TL.agNil, TL.okAgs, TL.okSlots, TL.toSV, TL.backE, TL.isOw, TL.apart, TL.mE, TL.mEF, TL.outE, TL.outEF, TL.endE, TL.parE, TL.kpOk, List.range, List.range.loop, TL.gDict0, TL.gDPut, TL.fGetO, TL.odE, TL.keyD, TL.gApp2, TL.ooE, TL.gFrzO, TL.frzOE, TL.fLcO, TL.gOwnO, TL.fStar, TL.fCallK, TL.fCallFK, TL.permL, TL.eLc, TL.gAll, TL.gAllE, TL.fSlO, TL.fFrzL, TL.eFrzL, TL.fT, TL.truD, TL.isNN, TL.gExt, TL.asL, TL.gOoL, TL.allF, TL.fFrzO, TL.bFrzO, TL.gForApp, TL.fStp, TL.gPop, TL.divmodD, TL.fLrg, TL.eSlTo, TL.flatD, TL.bFrz, TL.gFrz, TL.fFrzL, TL.gRevO, TL.gClear, TL.gPopAt, TL.gIns, TL.ePop, TL.gAug, TL.gForE, TL.jSeq, TL.jRg1, TL.jRg2, TL.jEn, TL.iRg3, TL.iRvR, TL.vS, TL.fIxOd, TL.fGetO, TL.fDin, TL.fDinN, TL.odE, TL.gFrzD, TL.frzDE, TL.fKeys, TL.fVals, TL.fPairs, TL.f3, M_law, G_law, L_law_1, gFor, l1, l2, hm1, hm3, ad, ce, h1]
end K14
set_option Elab.async false
set_option linter.all false
set_option maxRecDepth 100000
set_option maxHeartbeats 4000000
namespace K14
open PySem PySem.Spec L2 TL
open PyProof.Rows hiding St
theorem all_mk {l : PySem.W.OpenLaw} {w : World} {K : PySem.W.Frag} {h : Heap} {mg : Str → Option Value} {fa f0 f1 f2 f3 f4 f5 f6 f7 f8 f9 f10 f11 f12 f13 f14 f15 f16 f17 f18 f19 f20 f21 f22 f23 f24 f25 f26 f27 f28 f29 f30 f31 f32 f33 f34 f35 f36 f37 : Addr} (X : K.In h) (G : h.Ns mainGlobals mg) (hfa : mg "law" = some (.ref fa))
    {od0 an0 : Option Addr} {sl0 : Array (Option Value)} {oc0 kV0 dc0 pm0 cd0 ct0 : Value}
    {od1 an1 : Option Addr} {sl1 : Array (Option Value)} {oc1 kV1 dc1 pm1 cd1 ct1 : Value}
    {od2 an2 : Option Addr} {sl2 : Array (Option Value)} {oc2 kV2 dc2 pm2 cd2 ct2 : Value}
    {od3 an3 : Option Addr} {sl3 : Array (Option Value)} {oc3 kV3 dc3 pm3 cd3 ct3 : Value}
    {od4 an4 : Option Addr} {sl4 : Array (Option Value)} {oc4 kV4 dc4 pm4 cd4 ct4 : Value}
    {od5 an5 : Option Addr} {sl5 : Array (Option Value)} {oc5 kV5 dc5 pm5 cd5 ct5 : Value}
    {od6 an6 : Option Addr} {sl6 : Array (Option Value)} {oc6 kV6 dc6 pm6 cd6 ct6 : Value}
    {od7 an7 : Option Addr} {sl7 : Array (Option Value)} {oc7 kV7 dc7 pm7 cd7 ct7 : Value}
    {od8 an8 : Option Addr} {sl8 : Array (Option Value)} {oc8 kV8 dc8 pm8 cd8 ct8 : Value}
    {od9 an9 : Option Addr} {sl9 : Array (Option Value)} {oc9 kV9 dc9 pm9 cd9 ct9 : Value}
    {od10 an10 : Option Addr} {sl10 : Array (Option Value)} {oc10 kV10 dc10 pm10 cd10 ct10 : Value}
    {od11 an11 : Option Addr} {sl11 : Array (Option Value)} {oc11 kV11 dc11 pm11 cd11 ct11 : Value}
    {od12 an12 : Option Addr} {sl12 : Array (Option Value)} {oc12 kV12 dc12 pm12 cd12 ct12 : Value}
    {od13 an13 : Option Addr} {sl13 : Array (Option Value)} {oc13 kV13 dc13 pm13 cd13 ct13 : Value}
    {od14 an14 : Option Addr} {sl14 : Array (Option Value)} {oc14 kV14 dc14 pm14 cd14 ct14 : Value}
    {od15 an15 : Option Addr} {sl15 : Array (Option Value)} {oc15 kV15 dc15 pm15 cd15 ct15 : Value}
    {od16 an16 : Option Addr} {sl16 : Array (Option Value)} {oc16 kV16 dc16 pm16 cd16 ct16 : Value}
    {od17 an17 : Option Addr} {sl17 : Array (Option Value)} {oc17 kV17 dc17 pm17 cd17 ct17 : Value}
    {od18 an18 : Option Addr} {sl18 : Array (Option Value)} {oc18 kV18 dc18 pm18 cd18 ct18 : Value}
    {od19 an19 : Option Addr} {sl19 : Array (Option Value)} {oc19 kV19 dc19 pm19 cd19 ct19 : Value}
    {od20 an20 : Option Addr} {sl20 : Array (Option Value)} {oc20 kV20 dc20 pm20 cd20 ct20 : Value}
    {od21 an21 : Option Addr} {sl21 : Array (Option Value)} {oc21 kV21 dc21 pm21 cd21 ct21 : Value}
    {od22 an22 : Option Addr} {sl22 : Array (Option Value)} {oc22 kV22 dc22 pm22 cd22 ct22 : Value}
    {od23 an23 : Option Addr} {sl23 : Array (Option Value)} {oc23 kV23 dc23 pm23 cd23 ct23 : Value}
    {od24 an24 : Option Addr} {sl24 : Array (Option Value)} {oc24 kV24 dc24 pm24 cd24 ct24 : Value}
    {od25 an25 : Option Addr} {sl25 : Array (Option Value)} {oc25 kV25 dc25 pm25 cd25 ct25 : Value}
    {od26 an26 : Option Addr} {sl26 : Array (Option Value)} {oc26 kV26 dc26 pm26 cd26 ct26 : Value}
    {od27 an27 : Option Addr} {sl27 : Array (Option Value)} {oc27 kV27 dc27 pm27 cd27 ct27 : Value}
    {od28 an28 : Option Addr} {sl28 : Array (Option Value)} {oc28 kV28 dc28 pm28 cd28 ct28 : Value}
    {od29 an29 : Option Addr} {sl29 : Array (Option Value)} {oc29 kV29 dc29 pm29 cd29 ct29 : Value}
    {od30 an30 : Option Addr} {sl30 : Array (Option Value)} {oc30 kV30 dc30 pm30 cd30 ct30 : Value}
    {od31 an31 : Option Addr} {sl31 : Array (Option Value)} {oc31 kV31 dc31 pm31 cd31 ct31 : Value}
    {od32 an32 : Option Addr} {sl32 : Array (Option Value)} {oc32 kV32 dc32 pm32 cd32 ct32 : Value}
    {od33 an33 : Option Addr} {sl33 : Array (Option Value)} {oc33 kV33 dc33 pm33 cd33 ct33 : Value}
    {od34 an34 : Option Addr} {sl34 : Array (Option Value)} {oc34 kV34 dc34 pm34 cd34 ct34 : Value}
    {od35 an35 : Option Addr} {sl35 : Array (Option Value)} {oc35 kV35 dc35 pm35 cd35 ct35 : Value}
    {od36 an36 : Option Addr} {sl36 : Array (Option Value)} {oc36 kV36 dc36 pm36 cd36 ct36 : Value}
    {od37 an37 : Option Addr} {sl37 : Array (Option Value)} {oc37 kV37 dc37 pm37 cd37 ct37 : Value}
    {t_KINDS : Addr} {o_KINDS : Obj} {q_KINDS : Array Value} {n_KINDS : Nat} (x_KINDS : PySem.W.nsIn K mainGlobals "KINDS" = some (some (.ref t_KINDS))) (y_KINDS : K.lookup t_KINDS = some o_KINDS) (z_KINDS : o_KINDS.cls = .type "tuple" ∧ o_KINDS.data = .seq q_KINDS n_KINDS ∧ q_KINDS.size ≤ sizeLine ∧ Vals [.str "one", .str "tab", .str "step"] q_KINDS.toList)
    {k_MOST_SECTIONS : Tok} (x_MOST_SECTIONS : PySem.W.nsIn K mainGlobals "MOST_SECTIONS" = some (some (.int 40 k_MOST_SECTIONS)))
    (b_all : PySem.W.nsIn K mainGlobals "all" = some none)
    (b_bool : PySem.W.nsIn K mainGlobals "bool" = some none)
    (b_enumerate : PySem.W.nsIn K mainGlobals "enumerate" = some none)
    (b_int : PySem.W.nsIn K mainGlobals "int" = some none)
    (b_isinstance : PySem.W.nsIn K mainGlobals "isinstance" = some none)
    (b_len : PySem.W.nsIn K mainGlobals "len" = some none)
    (b_list : PySem.W.nsIn K mainGlobals "list" = some none)
    (b_max : PySem.W.nsIn K mainGlobals "max" = some none)
    (b_min : PySem.W.nsIn K mainGlobals "min" = some none)
    (b_range : PySem.W.nsIn K mainGlobals "range" = some none)
    (b_str : PySem.W.nsIn K mainGlobals "str" = some none)
    (b_tuple : PySem.W.nsIn K mainGlobals "tuple" = some none)
    (b_type : PySem.W.nsIn K mainGlobals "type" = some none)
    (b_zip : PySem.W.nsIn K mainGlobals "zip" = some none)
    {C_InvalidFormatError : Addr} (x1_InvalidFormatError : PySem.W.nsIn K mainGlobals "InvalidFormatError" = some (some (.ref C_InvalidFormatError))) (x2_InvalidFormatError : PySem.W.excIn K C_InvalidFormatError [.type "ValueError", .type "Exception", .type "BaseException", .type "object"] "ValueError.__new__" = true) (x3_InvalidFormatError : PySem.W.keepIn K (.ref C_InvalidFormatError) = true) (x4_InvalidFormatError : PySem.W.subIn K (.ref C_InvalidFormatError) (.type "BaseException") = some true) (x5_InvalidFormatError : PySem.W.typeIn K (.ref C_InvalidFormatError) = some (.type "type")) (x6_InvalidFormatError : PySem.W.exmOne K (.ref C_InvalidFormatError) (.ref C_InvalidFormatError) = some true)
    (a0 : PySem.W.nsIn K mainGlobals "depths_fit" = some (some (.ref f0))) (l0 : K.lookup f0 = some ⟨oc0, od0, .func (PySem.W.fnOf "depths_fit" "depths_fit" (defArgs s_depths_fit) (defBody s_depths_fit) (defScope s_depths_fit) .none kV0 dc0 pm0 an0 cd0 ct0), sl0⟩) (c0 : PySem.W.codeIn K cd0 "depths_fit" = true) (k0 : PySem.W.keepIn K (.ref f0) = true)
    (a1 : PySem.W.nsIn K mainGlobals "is_whole_number" = some (some (.ref f1))) (l1 : K.lookup f1 = some ⟨oc1, od1, .func (PySem.W.fnOf "is_whole_number" "is_whole_number" (defArgs s_is_whole_number) (defBody s_is_whole_number) (defScope s_is_whole_number) .none kV1 dc1 pm1 an1 cd1 ct1), sl1⟩) (c1 : PySem.W.codeIn K cd1 "is_whole_number" = true) (k1 : PySem.W.keepIn K (.ref f1) = true)
    (a2 : PySem.W.nsIn K mainGlobals "is_kind_word" = some (some (.ref f2))) (l2 : K.lookup f2 = some ⟨oc2, od2, .func (PySem.W.fnOf "is_kind_word" "is_kind_word" (defArgs s_is_kind_word) (defBody s_is_kind_word) (defScope s_is_kind_word) .none kV2 dc2 pm2 an2 cd2 ct2), sl2⟩) (c2 : PySem.W.codeIn K cd2 "is_kind_word" = true) (k2 : PySem.W.keepIn K (.ref f2) = true)
    (a3 : PySem.W.nsIn K mainGlobals "is_depth_and_kind" = some (some (.ref f3))) (l3 : K.lookup f3 = some ⟨oc3, od3, .func (PySem.W.fnOf "is_depth_and_kind" "is_depth_and_kind" (defArgs s_is_depth_and_kind) (defBody s_is_depth_and_kind) (defScope s_is_depth_and_kind) .none kV3 dc3 pm3 an3 cd3 ct3), sl3⟩) (c3 : PySem.W.codeIn K cd3 "is_depth_and_kind" = true) (k3 : PySem.W.keepIn K (.ref f3) = true)
    (a4 : PySem.W.nsIn K mainGlobals "is_plan" = some (some (.ref f4))) (l4 : K.lookup f4 = some ⟨oc4, od4, .func (PySem.W.fnOf "is_plan" "is_plan" (defArgs s_is_plan) (defBody s_is_plan) (defScope s_is_plan) .none kV4 dc4 pm4 an4 cd4 ct4), sl4⟩) (c4 : PySem.W.codeIn K cd4 "is_plan" = true) (k4 : PySem.W.keepIn K (.ref f4) = true)
    (a5 : PySem.W.nsIn K mainGlobals "check_plan" = some (some (.ref f5))) (l5 : K.lookup f5 = some ⟨oc5, od5, .func (PySem.W.fnOf "check_plan" "check_plan" (defArgs s_check_plan) (defBody s_check_plan) (defScope s_check_plan) .none kV5 dc5 pm5 an5 cd5 ct5), sl5⟩) (c5 : PySem.W.codeIn K cd5 "check_plan" = true) (k5 : PySem.W.keepIn K (.ref f5) = true)
    (a6 : PySem.W.nsIn K mainGlobals "written_plan" = some (some (.ref f6))) (l6 : K.lookup f6 = some ⟨oc6, od6, .func (PySem.W.fnOf "written_plan" "written_plan" (defArgs s_written_plan) (defBody s_written_plan) (defScope s_written_plan) .none kV6 dc6 pm6 an6 cd6 ct6), sl6⟩) (c6 : PySem.W.codeIn K cd6 "written_plan" = true) (k6 : PySem.W.keepIn K (.ref f6) = true)
    (a7 : PySem.W.nsIn K mainGlobals "format_plan" = some (some (.ref f7))) (l7 : K.lookup f7 = some ⟨oc7, od7, .func (PySem.W.fnOf "format_plan" "format_plan" (defArgs s_format_plan) (defBody s_format_plan) (defScope s_format_plan) .none kV7 dc7 pm7 an7 cd7 ct7), sl7⟩) (c7 : PySem.W.codeIn K cd7 "format_plan" = true) (k7 : PySem.W.keepIn K (.ref f7) = true)
    (a8 : PySem.W.nsIn K mainGlobals "check_string" = some (some (.ref f8))) (l8 : K.lookup f8 = some ⟨oc8, od8, .func (PySem.W.fnOf "check_string" "check_string" (defArgs s_check_string) (defBody s_check_string) (defScope s_check_string) .none kV8 dc8 pm8 an8 cd8 ct8), sl8⟩) (c8 : PySem.W.codeIn K cd8 "check_string" = true) (k8 : PySem.W.keepIn K (.ref f8) = true)
    (a9 : PySem.W.nsIn K mainGlobals "setting_among" = some (some (.ref f9))) (l9 : K.lookup f9 = some ⟨oc9, od9, .func (PySem.W.fnOf "setting_among" "setting_among" (defArgs s_setting_among) (defBody s_setting_among) (defScope s_setting_among) .none kV9 dc9 pm9 an9 cd9 ct9), sl9⟩) (c9 : PySem.W.codeIn K cd9 "setting_among" = true) (k9 : PySem.W.keepIn K (.ref f9) = true)
    (a10 : PySem.W.nsIn K mainGlobals "all_parents" = some (some (.ref f10))) (l10 : K.lookup f10 = some ⟨oc10, od10, .func (PySem.W.fnOf "all_parents" "all_parents" (defArgs s_all_parents) (defBody s_all_parents) (defScope s_all_parents) .none kV10 dc10 pm10 an10 cd10 ct10), sl10⟩) (c10 : PySem.W.codeIn K cd10 "all_parents" = true) (k10 : PySem.W.keepIn K (.ref f10) = true)
    (a11 : PySem.W.nsIn K mainGlobals "all_groups" = some (some (.ref f11))) (l11 : K.lookup f11 = some ⟨oc11, od11, .func (PySem.W.fnOf "all_groups" "all_groups" (defArgs s_all_groups) (defBody s_all_groups) (defScope s_all_groups) .none kV11 dc11 pm11 an11 cd11 ct11), sl11⟩) (c11 : PySem.W.codeIn K cd11 "all_groups" = true) (k11 : PySem.W.keepIn K (.ref f11) = true)
    (a12 : PySem.W.nsIn K mainGlobals "written_state" = some (some (.ref f12))) (l12 : K.lookup f12 = some ⟨oc12, od12, .func (PySem.W.fnOf "written_state" "written_state" (defArgs s_written_state) (defBody s_written_state) (defScope s_written_state) .none kV12 dc12 pm12 an12 cd12 ct12), sl12⟩) (c12 : PySem.W.codeIn K cd12 "written_state" = true) (k12 : PySem.W.keepIn K (.ref f12) = true)
    (a13 : PySem.W.nsIn K mainGlobals "group_choices" = some (some (.ref f13))) (l13 : K.lookup f13 = some ⟨oc13, od13, .func (PySem.W.fnOf "group_choices" "group_choices" (defArgs s_group_choices) (defBody s_group_choices) (defScope s_group_choices) .none kV13 dc13 pm13 an13 cd13 ct13), sl13⟩) (c13 : PySem.W.codeIn K cd13 "group_choices" = true) (k13 : PySem.W.keepIn K (.ref f13) = true)
    (a14 : PySem.W.nsIn K mainGlobals "all_choices" = some (some (.ref f14))) (l14 : K.lookup f14 = some ⟨oc14, od14, .func (PySem.W.fnOf "all_choices" "all_choices" (defArgs s_all_choices) (defBody s_all_choices) (defScope s_all_choices) .none kV14 dc14 pm14 an14 cd14 ct14), sl14⟩) (c14 : PySem.W.codeIn K cd14 "all_choices" = true) (k14 : PySem.W.keepIn K (.ref f14) = true)
    (a15 : PySem.W.nsIn K mainGlobals "parse_state" = some (some (.ref f15))) (l15 : K.lookup f15 = some ⟨oc15, od15, .func (PySem.W.fnOf "parse_state" "parse_state" (defArgs s_parse_state) (defBody s_parse_state) (defScope s_parse_state) .none kV15 dc15 pm15 an15 cd15 ct15), sl15⟩) (c15 : PySem.W.codeIn K cd15 "parse_state" = true) (k15 : PySem.W.keepIn K (.ref f15) = true)
    (a16 : PySem.W.nsIn K mainGlobals "_law_read" = some (some (.ref f16))) (l16 : K.lookup f16 = some ⟨oc16, od16, .func (PySem.W.fnOf "_law_read" "_law_read" (defArgs s_law_read) (defBody s_law_read) (defScope s_law_read) .none kV16 dc16 pm16 an16 cd16 ct16), sl16⟩) (c16 : PySem.W.codeIn K cd16 "_law_read" = true) (k16 : PySem.W.keepIn K (.ref f16) = true)
    (a17 : PySem.W.nsIn K mainGlobals "_law_draw" = some (some (.ref f17))) (l17 : K.lookup f17 = some ⟨oc17, od17, .func (PySem.W.fnOf "_law_draw" "_law_draw" (defArgs s_law_draw) (defBody s_law_draw) (defScope s_law_draw) .none kV17 dc17 pm17 an17 cd17 ct17), sl17⟩) (c17 : PySem.W.codeIn K cd17 "_law_draw" = true) (k17 : PySem.W.keepIn K (.ref f17) = true)
    (a18 : PySem.W.nsIn K mainGlobals "_law_page" = some (some (.ref f18))) (l18 : K.lookup f18 = some ⟨oc18, od18, .func (PySem.W.fnOf "_law_page" "_law_page" (defArgs s_law_page) (defBody s_law_page) (defScope s_law_page) .none kV18 dc18 pm18 an18 cd18 ct18), sl18⟩) (c18 : PySem.W.codeIn K cd18 "_law_page" = true) (k18 : PySem.W.keepIn K (.ref f18) = true)
    (a19 : PySem.W.nsIn K mainGlobals "_law_upper" = some (some (.ref f19))) (l19 : K.lookup f19 = some ⟨oc19, od19, .func (PySem.W.fnOf "_law_upper" "_law_upper" (defArgs s_law_upper) (defBody s_law_upper) (defScope s_law_upper) .none kV19 dc19 pm19 an19 cd19 ct19), sl19⟩) (c19 : PySem.W.codeIn K cd19 "_law_upper" = true) (k19 : PySem.W.keepIn K (.ref f19) = true)
    (a20 : PySem.W.nsIn K mainGlobals "_law_lower" = some (some (.ref f20))) (l20 : K.lookup f20 = some ⟨oc20, od20, .func (PySem.W.fnOf "_law_lower" "_law_lower" (defArgs s_law_lower) (defBody s_law_lower) (defScope s_law_lower) .none kV20 dc20 pm20 an20 cd20 ct20), sl20⟩) (c20 : PySem.W.codeIn K cd20 "_law_lower" = true) (k20 : PySem.W.keepIn K (.ref f20) = true)
    (a21 : PySem.W.nsIn K mainGlobals "_law_kept" = some (some (.ref f21))) (l21 : K.lookup f21 = some ⟨oc21, od21, .func (PySem.W.fnOf "_law_kept" "_law_kept" (defArgs s_law_kept) (defBody s_law_kept) (defScope s_law_kept) .none kV21 dc21 pm21 an21 cd21 ct21), sl21⟩) (c21 : PySem.W.codeIn K cd21 "_law_kept" = true) (k21 : PySem.W.keepIn K (.ref f21) = true)
    (a22 : PySem.W.nsIn K mainGlobals "has_settings" = some (some (.ref f22))) (l22 : K.lookup f22 = some ⟨oc22, od22, .func (PySem.W.fnOf "has_settings" "has_settings" (defArgs s_has_settings) (defBody s_has_settings) (defScope s_has_settings) .none kV22 dc22 pm22 an22 cd22 ct22), sl22⟩) (c22 : PySem.W.codeIn K cd22 "has_settings" = true) (k22 : PySem.W.keepIn K (.ref f22) = true)
    (a23 : PySem.W.nsIn K mainGlobals "check_state" = some (some (.ref f23))) (l23 : K.lookup f23 = some ⟨oc23, od23, .func (PySem.W.fnOf "check_state" "check_state" (defArgs s_check_state) (defBody s_check_state) (defScope s_check_state) .none kV23 dc23 pm23 an23 cd23 ct23), sl23⟩) (c23 : PySem.W.codeIn K cd23 "check_state" = true) (k23 : PySem.W.keepIn K (.ref f23) = true)
    (a24 : PySem.W.nsIn K mainGlobals "format_state" = some (some (.ref f24))) (l24 : K.lookup f24 = some ⟨oc24, od24, .func (PySem.W.fnOf "format_state" "format_state" (defArgs s_format_state) (defBody s_format_state) (defScope s_format_state) .none kV24 dc24 pm24 an24 cd24 ct24), sl24⟩) (c24 : PySem.W.codeIn K cd24 "format_state" = true) (k24 : PySem.W.keepIn K (.ref f24) = true)
    (a25 : PySem.W.nsIn K mainGlobals "is_section" = some (some (.ref f25))) (l25 : K.lookup f25 = some ⟨oc25, od25, .func (PySem.W.fnOf "is_section" "is_section" (defArgs s_is_section) (defBody s_is_section) (defScope s_is_section) .none kV25 dc25 pm25 an25 cd25 ct25), sl25⟩) (c25 : PySem.W.codeIn K cd25 "is_section" = true) (k25 : PySem.W.keepIn K (.ref f25) = true)
    (a26 : PySem.W.nsIn K mainGlobals "check_section" = some (some (.ref f26))) (l26 : K.lookup f26 = some ⟨oc26, od26, .func (PySem.W.fnOf "check_section" "check_section" (defArgs s_check_section) (defBody s_check_section) (defScope s_check_section) .none kV26 dc26 pm26 an26 cd26 ct26), sl26⟩) (c26 : PySem.W.codeIn K cd26 "check_section" = true) (k26 : PySem.W.keepIn K (.ref f26) = true)
    (a27 : PySem.W.nsIn K mainGlobals "check_below_page" = some (some (.ref f27))) (l27 : K.lookup f27 = some ⟨oc27, od27, .func (PySem.W.fnOf "check_below_page" "check_below_page" (defArgs s_check_below_page) (defBody s_check_below_page) (defScope s_check_below_page) .none kV27 dc27 pm27 an27 cd27 ct27), sl27⟩) (c27 : PySem.W.codeIn K cd27 "check_below_page" = true) (k27 : PySem.W.keepIn K (.ref f27) = true)
    (a28 : PySem.W.nsIn K mainGlobals "end_of" = some (some (.ref f28))) (l28 : K.lookup f28 = some ⟨oc28, od28, .func (PySem.W.fnOf "end_of" "end_of" (defArgs s_end_of) (defBody s_end_of) (defScope s_end_of) .none kV28 dc28 pm28 an28 cd28 ct28), sl28⟩) (c28 : PySem.W.codeIn K cd28 "end_of" = true) (k28 : PySem.W.keepIn K (.ref f28) = true)
    (a29 : PySem.W.nsIn K mainGlobals "plan_without" = some (some (.ref f29))) (l29 : K.lookup f29 = some ⟨oc29, od29, .func (PySem.W.fnOf "plan_without" "plan_without" (defArgs s_plan_without) (defBody s_plan_without) (defScope s_plan_without) .none kV29 dc29 pm29 an29 cd29 ct29), sl29⟩) (c29 : PySem.W.codeIn K cd29 "plan_without" = true) (k29 : PySem.W.keepIn K (.ref f29) = true)
    (a30 : PySem.W.nsIn K mainGlobals "depths_and_words" = some (some (.ref f30))) (l30 : K.lookup f30 = some ⟨oc30, od30, .func (PySem.W.fnOf "depths_and_words" "depths_and_words" (defArgs s_depths_and_words) (defBody s_depths_and_words) (defScope s_depths_and_words) .none kV30 dc30 pm30 an30 cd30 ct30), sl30⟩) (c30 : PySem.W.codeIn K cd30 "depths_and_words" = true) (k30 : PySem.W.keepIn K (.ref f30) = true)
    (a31 : PySem.W.nsIn K mainGlobals "parse_plan" = some (some (.ref f31))) (l31 : K.lookup f31 = some ⟨oc31, od31, .func (PySem.W.fnOf "parse_plan" "parse_plan" (defArgs s_parse_plan) (defBody s_parse_plan) (defScope s_parse_plan) .none kV31 dc31 pm31 an31 cd31 ct31), sl31⟩) (c31 : PySem.W.codeIn K cd31 "parse_plan" = true) (k31 : PySem.W.keepIn K (.ref f31) = true)
    (a32 : PySem.W.nsIn K mainGlobals "is_state" = some (some (.ref f32))) (l32 : K.lookup f32 = some ⟨oc32, od32, .func (PySem.W.fnOf "is_state" "is_state" (defArgs s_is_state) (defBody s_is_state) (defScope s_is_state) .none kV32 dc32 pm32 an32 cd32 ct32), sl32⟩) (c32 : PySem.W.codeIn K cd32 "is_state" = true) (k32 : PySem.W.keepIn K (.ref f32) = true)
    (a33 : PySem.W.nsIn K mainGlobals "group_of" = some (some (.ref f33))) (l33 : K.lookup f33 = some ⟨oc33, od33, .func (PySem.W.fnOf "group_of" "group_of" (defArgs s_group_of) (defBody s_group_of) (defScope s_group_of) .none kV33 dc33 pm33 an33 cd33 ct33), sl33⟩) (c33 : PySem.W.codeIn K cd33 "group_of" = true) (k33 : PySem.W.keepIn K (.ref f33) = true)
    (a34 : PySem.W.nsIn K mainGlobals "sections_within" = some (some (.ref f34))) (l34 : K.lookup f34 = some ⟨oc34, od34, .func (PySem.W.fnOf "sections_within" "sections_within" (defArgs s_sections_within) (defBody s_sections_within) (defScope s_sections_within) .none kV34 dc34 pm34 an34 cd34 ct34), sl34⟩) (c34 : PySem.W.codeIn K cd34 "sections_within" = true) (k34 : PySem.W.keepIn K (.ref f34) = true)
    (a35 : PySem.W.nsIn K mainGlobals "_law_holds" = some (some (.ref f35))) (l35 : K.lookup f35 = some ⟨oc35, od35, .func (PySem.W.fnOf "_law_holds" "_law_holds" (defArgs s_law_holds) (defBody s_law_holds) (defScope s_law_holds) .none kV35 dc35 pm35 an35 cd35 ct35), sl35⟩) (c35 : PySem.W.codeIn K cd35 "_law_holds" = true) (k35 : PySem.W.keepIn K (.ref f35) = true)
    (a36 : PySem.W.nsIn K mainGlobals "_law_source" = some (some (.ref f36))) (l36 : K.lookup f36 = some ⟨oc36, od36, .func (PySem.W.fnOf "_law_source" "_law_source" (defArgs s_law_source) (defBody s_law_source) (defScope s_law_source) .none kV36 dc36 pm36 an36 cd36 ct36), sl36⟩) (c36 : PySem.W.codeIn K cd36 "_law_source" = true) (k36 : PySem.W.keepIn K (.ref f36) = true)
    (a37 : PySem.W.nsIn K mainGlobals "law" = some (some (.ref f37))) (l37 : K.lookup f37 = some ⟨oc37, od37, .func (PySem.W.fnOf "law" "law" (defArgs s_law) (defBody s_law) (defScope s_law) .none kV37 dc37 pm37 an37 cd37 ct37), sl37⟩) (c37 : PySem.W.codeIn K cd37 "law" = true) (k37 : PySem.W.keepIn K (.ref f37) = true)
    : ∃ fd : FuncData, (∀ (s : Shared) (v : Value), BindsTo s fd ⟨[v], []⟩ [("script", v)]) ∧ ∀ base : Heap, K.In base → base.Ns mainGlobals mg → FnG l.prog w K mg base CX0 8 fa fd ["script"] (spV K 1 M_law) := by
  have e := hfa.symm.trans (PySem.W.mg_of X G a37)
  cases e
  have B : Bn mg := ⟨PySem.W.mg_none_of X G b_all, PySem.W.mg_none_of X G b_bool, PySem.W.mg_none_of X G b_enumerate, PySem.W.mg_none_of X G b_int, PySem.W.mg_none_of X G b_isinstance, PySem.W.mg_none_of X G b_len, PySem.W.mg_none_of X G b_list, PySem.W.mg_none_of X G b_max, PySem.W.mg_none_of X G b_min, PySem.W.mg_none_of X G b_range, PySem.W.mg_none_of X G b_str, PySem.W.mg_none_of X G b_tuple, PySem.W.mg_none_of X G b_type, PySem.W.mg_none_of X G b_zip⟩
  have C : Cn K mg := ⟨⟨.ref t_KINDS, .ref t_KINDS, PySem.W.mg_of X G x_KINDS, rfl, fun Hs => .t (.inr ⟨o_KINDS, q_KINDS, n_KINDS, y_KINDS, z_KINDS⟩) (.cons (.s _) (.cons (.s _) (.cons (.s _) (.nil))))⟩, ⟨.int 40 k_MOST_SECTIONS, .int 40, PySem.W.mg_of X G x_MOST_SECTIONS, ⟨_, rfl⟩, fun Hs => .i _⟩⟩
  have E_InvalidFormatError : ErrK K mg "InvalidFormatError" C_InvalidFormatError := ⟨PySem.W.mg_of X G x1_InvalidFormatError, x2_InvalidFormatError, x3_InvalidFormatError, x4_InvalidFormatError, x5_InvalidFormatError, x6_InvalidFormatError⟩
  have F0 := fun_mk (st := s_depths_fit) l0 c0 k0
  have b0 := F0.binds (ps := ["depths"]) fun _ _ _ _ _ _ us hl => match us, hl with | [_], _ => rfl
  have F1 := fun_mk (st := s_is_whole_number) l1 c1 k1
  have b1 := F1.binds (ps := ["value"]) fun _ _ _ _ _ _ us hl => match us, hl with | [_], _ => rfl
  have F2 := fun_mk (st := s_is_kind_word) l2 c2 k2
  have b2 := F2.binds (ps := ["value"]) fun _ _ _ _ _ _ us hl => match us, hl with | [_], _ => rfl
  have F3 := fun_mk (st := s_is_depth_and_kind) l3 c3 k3
  have b3 := F3.binds (ps := ["value"]) fun _ _ _ _ _ _ us hl => match us, hl with | [_], _ => rfl
  have F4 := fun_mk (st := s_is_plan) l4 c4 k4
  have b4 := F4.binds (ps := ["value"]) fun _ _ _ _ _ _ us hl => match us, hl with | [_], _ => rfl
  have F5 := fun_mk (st := s_check_plan) l5 c5 k5
  have b5 := F5.binds (ps := ["plan"]) fun _ _ _ _ _ _ us hl => match us, hl with | [_], _ => rfl
  have F6 := fun_mk (st := s_written_plan) l6 c6 k6
  have b6 := F6.binds (ps := ["plan"]) fun _ _ _ _ _ _ us hl => match us, hl with | [_], _ => rfl
  have F7 := fun_mk (st := s_format_plan) l7 c7 k7
  have b7 := F7.binds (ps := ["plan"]) fun _ _ _ _ _ _ us hl => match us, hl with | [_], _ => rfl
  have F8 := fun_mk (st := s_check_string) l8 c8 k8
  have b8 := F8.binds (ps := ["text"]) fun _ _ _ _ _ _ us hl => match us, hl with | [_], _ => rfl
  have F9 := fun_mk (st := s_setting_among) l9 c9 k9
  have b9 := F9.binds (ps := ["words", "section", "choices"]) fun _ _ _ _ _ _ us hl => match us, hl with | [_, _, _], _ => rfl
  have F10 := fun_mk (st := s_all_parents) l10 c10 k10
  have b10 := F10.binds (ps := ["plan"]) fun _ _ _ _ _ _ us hl => match us, hl with | [_], _ => rfl
  have F11 := fun_mk (st := s_all_groups) l11 c11 k11
  have b11 := F11.binds (ps := ["plan"]) fun _ _ _ _ _ _ us hl => match us, hl with | [_], _ => rfl
  have F12 := fun_mk (st := s_written_state) l12 c12 k12
  have b12 := F12.binds (ps := ["plan", "state"]) fun _ _ _ _ _ _ us hl => match us, hl with | [_, _], _ => rfl
  have F13 := fun_mk (st := s_group_choices) l13 c13 k13
  have b13 := F13.binds (ps := ["kind", "group"]) fun _ _ _ _ _ _ us hl => match us, hl with | [_, _], _ => rfl
  have F14 := fun_mk (st := s_all_choices) l14 c14 k14
  have b14 := F14.binds (ps := ["plan"]) fun _ _ _ _ _ _ us hl => match us, hl with | [_], _ => rfl
  have F15 := fun_mk (st := s_parse_state) l15 c15 k15
  have b15 := F15.binds (ps := ["plan", "text"]) fun _ _ _ _ _ _ us hl => match us, hl with | [_, _], _ => rfl
  have F16 := fun_mk (st := s_law_read) l16 c16 k16
  have b16 := F16.binds (ps := ["page", "written"]) fun _ _ _ _ _ _ us hl => match us, hl with | [_, _], _ => rfl
  have F17 := fun_mk (st := s_law_draw) l17 c17 k17
  have b17 := F17.binds (ps := ["source", "count"]) fun _ _ _ _ _ _ us hl => match us, hl with | [_, _], _ => rfl
  have F18 := fun_mk (st := s_law_page) l18 c18 k18
  have b18 := F18.binds (ps := ["source", "most"]) fun _ _ _ _ _ _ us hl => match us, hl with | [_, _], _ => rfl
  have F19 := fun_mk (st := s_law_upper) l19 c19 k19
  have b19 := F19.binds (ps := ["page"]) fun _ _ _ _ _ _ us hl => match us, hl with | [_], _ => rfl
  have F20 := fun_mk (st := s_law_lower) l20 c20 k20
  have b20 := F20.binds (ps := ["page"]) fun _ _ _ _ _ _ us hl => match us, hl with | [_], _ => rfl
  have F21 := fun_mk (st := s_law_kept) l21 c21 k21
  have b21 := F21.binds (ps := ["source", "page"]) fun _ _ _ _ _ _ us hl => match us, hl with | [_, _], _ => rfl
  have F22 := fun_mk (st := s_has_settings) l22 c22 k22
  have b22 := F22.binds (ps := ["plan", "value"]) fun _ _ _ _ _ _ us hl => match us, hl with | [_, _], _ => rfl
  have F23 := fun_mk (st := s_check_state) l23 c23 k23
  have b23 := F23.binds (ps := ["plan", "state"]) fun _ _ _ _ _ _ us hl => match us, hl with | [_, _], _ => rfl
  have F24 := fun_mk (st := s_format_state) l24 c24 k24
  have b24 := F24.binds (ps := ["plan", "state"]) fun _ _ _ _ _ _ us hl => match us, hl with | [_, _], _ => rfl
  have F25 := fun_mk (st := s_is_section) l25 c25 k25
  have b25 := F25.binds (ps := ["plan", "value"]) fun _ _ _ _ _ _ us hl => match us, hl with | [_, _], _ => rfl
  have F26 := fun_mk (st := s_check_section) l26 c26 k26
  have b26 := F26.binds (ps := ["plan", "section"]) fun _ _ _ _ _ _ us hl => match us, hl with | [_, _], _ => rfl
  have F27 := fun_mk (st := s_check_below_page) l27 c27 k27
  have b27 := F27.binds (ps := ["plan", "section"]) fun _ _ _ _ _ _ us hl => match us, hl with | [_, _], _ => rfl
  have F28 := fun_mk (st := s_end_of) l28 c28 k28
  have b28 := F28.binds (ps := ["plan", "section"]) fun _ _ _ _ _ _ us hl => match us, hl with | [_, _], _ => rfl
  have F29 := fun_mk (st := s_plan_without) l29 c29 k29
  have b29 := F29.binds (ps := ["plan", "section"]) fun _ _ _ _ _ _ us hl => match us, hl with | [_, _], _ => rfl
  have F30 := fun_mk (st := s_depths_and_words) l30 c30 k30
  have b30 := F30.binds (ps := ["text"]) fun _ _ _ _ _ _ us hl => match us, hl with | [_], _ => rfl
  have F31 := fun_mk (st := s_parse_plan) l31 c31 k31
  have b31 := F31.binds (ps := ["text"]) fun _ _ _ _ _ _ us hl => match us, hl with | [_], _ => rfl
  have F32 := fun_mk (st := s_is_state) l32 c32 k32
  have b32 := F32.binds (ps := ["plan", "value"]) fun _ _ _ _ _ _ us hl => match us, hl with | [_, _], _ => rfl
  have F33 := fun_mk (st := s_group_of) l33 c33 k33
  have b33 := F33.binds (ps := ["plan", "section"]) fun _ _ _ _ _ _ us hl => match us, hl with | [_, _], _ => rfl
  have F34 := fun_mk (st := s_sections_within) l34 c34 k34
  have b34 := F34.binds (ps := ["plan", "section"]) fun _ _ _ _ _ _ us hl => match us, hl with | [_, _], _ => rfl
  have F35 := fun_mk (st := s_law_holds) l35 c35 k35
  have b35 := F35.binds (ps := ["source", "most"]) fun _ _ _ _ _ _ us hl => match us, hl with | [_, _], _ => rfl
  have F36 := fun_mk (st := s_law_source) l36 c36 k36
  have b36 := F36.binds (ps := ["cell", "k"]) fun _ _ _ _ _ _ us hl => match us, hl with | [_, _], _ => rfl
  have F37 := fun_mk (st := s_law) l37 c37 k37
  refine ⟨PySem.W.fnOf "law" "law" (defArgs s_law) (defBody s_law) (defScope s_law) .none kV37 dc37 pm37 an37 cd37 ct37, fun s v => .of_eq rfl, fun base _ _ => ?_⟩
  have H_depths_fit : CalK l.prog w K mg base 1 "depths_fit" ["depths"] (spV K 1 M_depths_fit) [] := ⟨_, _, ok_depths_fit F0 B C, PySem.W.mg_of X G a0, F0.kp, b0, kws_nil⟩
  have H_is_whole_number : CalK l.prog w K mg base 1 "is_whole_number" ["value"] (spV K 1 M_is_whole_number) [] := ⟨_, _, ok_is_whole_number F1 B C, PySem.W.mg_of X G a1, F1.kp, b1, kws_nil⟩
  have H_is_kind_word : CalK l.prog w K mg base 1 "is_kind_word" ["value"] (spV K 1 M_is_kind_word) [] := ⟨_, _, ok_is_kind_word F2 B C, PySem.W.mg_of X G a2, F2.kp, b2, kws_nil⟩
  have H_is_depth_and_kind : CalK l.prog w K mg base 2 "is_depth_and_kind" ["value"] (spV K 1 M_is_depth_and_kind) [] := ⟨_, _, ok_is_depth_and_kind F3 B C H_is_kind_word H_is_whole_number, PySem.W.mg_of X G a3, F3.kp, b3, kws_nil⟩
  have H_is_plan : CalK l.prog w K mg base 3 "is_plan" ["value"] (spV K 1 M_is_plan) [] := ⟨_, _, ok_is_plan F4 B C H_depths_fit H_is_depth_and_kind, PySem.W.mg_of X G a4, F4.kp, b4, kws_nil⟩
  have H_check_plan : CalK l.prog w K mg base 4 "check_plan" ["plan"] (spV K 1 M_check_plan) [] := ⟨_, _, ok_check_plan F5 B C H_is_plan, PySem.W.mg_of X G a5, F5.kp, b5, kws_nil⟩
  have H_written_plan : CalK l.prog w K mg base 1 "written_plan" ["plan"] (spV K 1 M_written_plan) [] := ⟨_, _, ok_written_plan F6 B C, PySem.W.mg_of X G a6, F6.kp, b6, kws_nil⟩
  have H_format_plan : CalK l.prog w K mg base 5 "format_plan" ["plan"] (spV K 1 M_format_plan) [] := ⟨_, _, ok_format_plan F7 B C H_check_plan H_written_plan, PySem.W.mg_of X G a7, F7.kp, b7, kws_nil⟩
  have H_check_string : CalK l.prog w K mg base 1 "check_string" ["text"] (spV K 1 M_check_string) [] := ⟨_, _, ok_check_string F8 B C, PySem.W.mg_of X G a8, F8.kp, b8, kws_nil⟩
  have H_setting_among : CalK l.prog w K mg base 1 "setting_among" ["words", "section", "choices"] (spV K 3 M_setting_among) [] := ⟨_, _, ok_setting_among F9 B C, PySem.W.mg_of X G a9, F9.kp, b9, kws_nil⟩
  have H_all_parents : CalK l.prog w K mg base 1 "all_parents" ["plan"] (spF K 1 M_all_parents) [] := ⟨_, _, ok_all_parents F10 B C, PySem.W.mg_of X G a10, F10.kp, b10, kws_nil⟩
  have H_all_groups : CalK l.prog w K mg base 2 "all_groups" ["plan"] (spV K 1 M_all_groups) [] := ⟨_, _, ok_all_groups F11 B C H_all_parents, PySem.W.mg_of X G a11, F11.kp, b11, kws_nil⟩
  have H_written_state : CalK l.prog w K mg base 3 "written_state" ["plan", "state"] (spV K 2 M_written_state) [] := ⟨_, _, ok_written_state F12 B C H_all_groups, PySem.W.mg_of X G a12, F12.kp, b12, kws_nil⟩
  have H_group_choices : CalK l.prog w K mg base 1 "group_choices" ["kind", "group"] (spV K 2 M_group_choices) [] := ⟨_, _, ok_group_choices F13 B C, PySem.W.mg_of X G a13, F13.kp, b13, kws_nil⟩
  have H_all_choices : CalK l.prog w K mg base 3 "all_choices" ["plan"] (spF K 1 M_all_choices) [] := ⟨_, _, ok_all_choices F14 B C H_all_groups H_group_choices, PySem.W.mg_of X G a14, F14.kp, b14, kws_nil⟩
  have H_parse_state : CalX l.prog w K mg base 5 "parse_state" ["plan", "text"] (spFX K 2 C_InvalidFormatError M_parse_state) := ⟨_, _, ok_parse_state F15 B C E_InvalidFormatError H_all_choices H_check_plan H_check_string H_setting_among H_written_state, PySem.W.mg_of X G a15, F15.kp, b15⟩
  have H_law_read : CalK l.prog w K mg base 6 "_law_read" ["page", "written"] (spV K 2 M_law_read) [] := ⟨_, _, ok_law_read F16 B C E_InvalidFormatError H_parse_state, PySem.W.mg_of X G a16, F16.kp, b16, kws_nil⟩
  have H_law_draw : CalK l.prog w K mg base 1 "_law_draw" ["source", "count"] (spE K 2 M_law_draw) [] := ⟨_, _, ok_law_draw F17 B C, PySem.W.mg_of X G a17, F17.kp, b17, kws_nil⟩
  have H_law_page : CalK l.prog w K mg base 2 "_law_page" ["source", "most"] (spEF K 2 M_law_page) [] := ⟨_, _, ok_law_page F18 B C H_law_draw, PySem.W.mg_of X G a18, F18.kp, b18, kws_nil⟩
  have H_law_upper : CalK l.prog w K mg base 1 "_law_upper" ["page"] (spF K 1 M_law_upper) [] := ⟨_, _, ok_law_upper F19 B C, PySem.W.mg_of X G a19, F19.kp, b19, kws_nil⟩
  have H_law_lower : CalK l.prog w K mg base 2 "_law_lower" ["page"] (spF K 1 M_law_lower) [] := ⟨_, _, ok_law_lower F20 B C H_law_upper, PySem.W.mg_of X G a20, F20.kp, b20, kws_nil⟩
  have H_law_kept : CalK l.prog w K mg base 3 "_law_kept" ["source", "page"] (spEF K 2 M_law_kept) [] := ⟨_, _, ok_law_kept F21 B C H_law_draw H_law_lower, PySem.W.mg_of X G a21, F21.kp, b21, kws_nil⟩
  have H_has_settings : CalK l.prog w K mg base 4 "has_settings" ["plan", "value"] (spV K 2 M_has_settings) [] := ⟨_, _, ok_has_settings F22 B C H_all_choices H_is_whole_number, PySem.W.mg_of X G a22, F22.kp, b22, kws_nil⟩
  have H_check_state : CalK l.prog w K mg base 5 "check_state" ["plan", "state"] (spV K 2 M_check_state) [] := ⟨_, _, ok_check_state F23 B C H_has_settings, PySem.W.mg_of X G a23, F23.kp, b23, kws_nil⟩
  have H_format_state : CalK l.prog w K mg base 6 "format_state" ["plan", "state"] (spV K 2 M_format_state) [] := ⟨_, _, ok_format_state F24 B C H_check_plan H_check_state H_written_state, PySem.W.mg_of X G a24, F24.kp, b24, kws_nil⟩
  have H_is_section : CalK l.prog w K mg base 2 "is_section" ["plan", "value"] (spV K 2 M_is_section) [] := ⟨_, _, ok_is_section F25 B C H_is_whole_number, PySem.W.mg_of X G a25, F25.kp, b25, kws_nil⟩
  have H_check_section : CalK l.prog w K mg base 3 "check_section" ["plan", "section"] (spV K 2 M_check_section) [] := ⟨_, _, ok_check_section F26 B C H_is_section, PySem.W.mg_of X G a26, F26.kp, b26, kws_nil⟩
  have H_check_below_page : CalK l.prog w K mg base 4 "check_below_page" ["plan", "section"] (spV K 2 M_check_below_page) [] := ⟨_, _, ok_check_below_page F27 B C H_check_section, PySem.W.mg_of X G a27, F27.kp, b27, kws_nil⟩
  have H_end_of : CalK l.prog w K mg base 1 "end_of" ["plan", "section"] (spV K 2 M_end_of) [] := ⟨_, _, ok_end_of F28 B C, PySem.W.mg_of X G a28, F28.kp, b28, kws_nil⟩
  have H_plan_without : CalK l.prog w K mg base 5 "plan_without" ["plan", "section"] (spF K 2 M_plan_without) [] := ⟨_, _, ok_plan_without F29 B C H_check_below_page H_check_plan H_end_of, PySem.W.mg_of X G a29, F29.kp, b29, kws_nil⟩
  have H_depths_and_words : CalK l.prog w K mg base 1 "depths_and_words" ["text"] (spF K 1 M_depths_and_words) [] := ⟨_, _, ok_depths_and_words F30 B C, PySem.W.mg_of X G a30, F30.kp, b30, kws_nil⟩
  have H_parse_plan : CalK l.prog w K mg base 4 "parse_plan" ["text"] (spF K 1 M_parse_plan) [] := ⟨_, _, ok_parse_plan F31 B C H_check_string H_depths_and_words H_is_plan H_written_plan, PySem.W.mg_of X G a31, F31.kp, b31, kws_nil⟩
  have H_is_state : CalK l.prog w K mg base 5 "is_state" ["plan", "value"] (spV K 2 M_is_state) [] := ⟨_, _, ok_is_state F32 B C H_check_plan H_has_settings, PySem.W.mg_of X G a32, F32.kp, b32, kws_nil⟩
  have H_group_of : CalK l.prog w K mg base 5 "group_of" ["plan", "section"] (spV K 2 M_group_of) [] := ⟨_, _, ok_group_of F33 B C H_all_groups H_check_plan H_check_section, PySem.W.mg_of X G a33, F33.kp, b33, kws_nil⟩
  have H_sections_within : CalK l.prog w K mg base 5 "sections_within" ["plan", "section"] (spF K 2 M_sections_within) [] := ⟨_, _, ok_sections_within F34 B C H_check_plan H_check_section H_end_of, PySem.W.mg_of X G a34, F34.kp, b34, kws_nil⟩
  have H_law_holds : CalK l.prog w K mg base 7 "_law_holds" ["source", "most"] (spE K 2 M_law_holds) [] := ⟨_, _, ok_law_holds F35 B C H_law_draw H_law_kept H_law_page H_law_read H_format_plan H_format_state H_group_of H_is_state H_parse_plan H_plan_without H_sections_within, PySem.W.mg_of X G a35, F35.kp, b35, kws_nil⟩
  have H_law_source : CalK l.prog w K mg base 1 "_law_source" ["cell", "k"] (spF K 2 M_law_source) [] := ⟨_, _, ok_law_source F36 B C, PySem.W.mg_of X G a36, F36.kp, b36, kws_nil⟩
  exact ok_law F37 B C H_law_holds H_law_source
end K14
open PySem PySem.W PyProof.Rows in
set_option maxRecDepth 100000 in
set_option maxHeartbeats 0 in
theorem PySem.Challenge.cw_accordions_k14_whole_strings_of_plans_an_holds : PySem.Challenge.rw_accordions_k14_whole_strings_of_plans_an.Holds := by
  w_on; o_law; k_head; (case hw => w_witness2)
  k_fill
  refine TL.walkG (l := PySem.Challenge.rw_accordions_k14_whole_strings_of_plans_an) (n := 63) (k := 8) (x := "script") (CX := fun _ => L2.CX0) (sp := fun w => TL.spV _ 1 K14.M_law) rfl (by decide) rfl ⟨rfl, by decide, by decide⟩ (fun w h Y => PySem.W.kIn_of Y) ?F (fun _ _ _ _ hl _ hS => TL.sp_top hS (K14.top hl)) (fun _ _ _ _ _ h => h)
  case F =>
    intro w mg fa h KX G hmg
    refine' K14.all_mk KX G hmg ?x_KINDS ?y_KINDS ?z_KINDS ?x_MOST_SECTIONS ?b_all ?b_bool ?b_enumerate ?b_int ?b_isinstance ?b_len ?b_list ?b_max ?b_min ?b_range ?b_str ?b_tuple ?b_type ?b_zip ?x1_InvalidFormatError ?x2_InvalidFormatError ?x3_InvalidFormatError ?x4_InvalidFormatError ?x5_InvalidFormatError ?x6_InvalidFormatError ?a0 ?l0 ?c0 ?k0 ?a1 ?l1 ?c1 ?k1 ?a2 ?l2 ?c2 ?k2 ?a3 ?l3 ?c3 ?k3 ?a4 ?l4 ?c4 ?k4 ?a5 ?l5 ?c5 ?k5 ?a6 ?l6 ?c6 ?k6 ?a7 ?l7 ?c7 ?k7 ?a8 ?l8 ?c8 ?k8 ?a9 ?l9 ?c9 ?k9 ?a10 ?l10 ?c10 ?k10 ?a11 ?l11 ?c11 ?k11 ?a12 ?l12 ?c12 ?k12 ?a13 ?l13 ?c13 ?k13 ?a14 ?l14 ?c14 ?k14 ?a15 ?l15 ?c15 ?k15 ?a16 ?l16 ?c16 ?k16 ?a17 ?l17 ?c17 ?k17 ?a18 ?l18 ?c18 ?k18 ?a19 ?l19 ?c19 ?k19 ?a20 ?l20 ?c20 ?k20 ?a21 ?l21 ?c21 ?k21 ?a22 ?l22 ?c22 ?k22 ?a23 ?l23 ?c23 ?k23 ?a24 ?l24 ?c24 ?k24 ?a25 ?l25 ?c25 ?k25 ?a26 ?l26 ?c26 ?k26 ?a27 ?l27 ?c27 ?k27 ?a28 ?l28 ?c28 ?k28 ?a29 ?l29 ?c29 ?k29 ?a30 ?l30 ?c30 ?k30 ?a31 ?l31 ?c31 ?k31 ?a32 ?l32 ?c32 ?k32 ?a33 ?l33 ?c33 ?k33 ?a34 ?l34 ?c34 ?k34 ?a35 ?l35 ?c35 ?k35 ?a36 ?l36 ?c36 ?k36 ?a37 ?l37 ?c37 ?k37
    (case x_KINDS => k_is)
    (case y_KINDS => k_is)
    (case z_KINDS => exact ⟨rfl, rfl, by decide +kernel, .cons ⟨_, rfl⟩ (.cons ⟨_, rfl⟩ (.cons ⟨_, rfl⟩ (.nil)))⟩)
    (case x_MOST_SECTIONS => k_is)
    (case b_all => k_is)
    (case b_bool => k_is)
    (case b_enumerate => k_is)
    (case b_int => k_is)
    (case b_isinstance => k_is)
    (case b_len => k_is)
    (case b_list => k_is)
    (case b_max => k_is)
    (case b_min => k_is)
    (case b_range => k_is)
    (case b_str => k_is)
    (case b_tuple => k_is)
    (case b_type => k_is)
    (case b_zip => k_is)
    (case x1_InvalidFormatError => k_is)
    (case x2_InvalidFormatError => k_exc)
    (case x3_InvalidFormatError => k_is)
    (case x4_InvalidFormatError => k_is)
    (case x5_InvalidFormatError => k_is)
    (case x6_InvalidFormatError => kts_exm)
    (case a0 => k_is)
    (case l0 => k_is)
    (case c0 => k_is)
    (case k0 => k_is)
    (case a1 => k_is)
    (case l1 => k_is)
    (case c1 => k_is)
    (case k1 => k_is)
    (case a2 => k_is)
    (case l2 => k_is)
    (case c2 => k_is)
    (case k2 => k_is)
    (case a3 => k_is)
    (case l3 => k_is)
    (case c3 => k_is)
    (case k3 => k_is)
    (case a4 => k_is)
    (case l4 => k_is)
    (case c4 => k_is)
    (case k4 => k_is)
    (case a5 => k_is)
    (case l5 => k_is)
    (case c5 => k_is)
    (case k5 => k_is)
    (case a6 => k_is)
    (case l6 => k_is)
    (case c6 => k_is)
    (case k6 => k_is)
    (case a7 => k_is)
    (case l7 => k_is)
    (case c7 => k_is)
    (case k7 => k_is)
    (case a8 => k_is)
    (case l8 => k_is)
    (case c8 => k_is)
    (case k8 => k_is)
    (case a9 => k_is)
    (case l9 => k_is)
    (case c9 => k_is)
    (case k9 => k_is)
    (case a10 => k_is)
    (case l10 => k_is)
    (case c10 => k_is)
    (case k10 => k_is)
    (case a11 => k_is)
    (case l11 => k_is)
    (case c11 => k_is)
    (case k11 => k_is)
    (case a12 => k_is)
    (case l12 => k_is)
    (case c12 => k_is)
    (case k12 => k_is)
    (case a13 => k_is)
    (case l13 => k_is)
    (case c13 => k_is)
    (case k13 => k_is)
    (case a14 => k_is)
    (case l14 => k_is)
    (case c14 => k_is)
    (case k14 => k_is)
    (case a15 => k_is)
    (case l15 => k_is)
    (case c15 => k_is)
    (case k15 => k_is)
    (case a16 => k_is)
    (case l16 => k_is)
    (case c16 => k_is)
    (case k16 => k_is)
    (case a17 => k_is)
    (case l17 => k_is)
    (case c17 => k_is)
    (case k17 => k_is)
    (case a18 => k_is)
    (case l18 => k_is)
    (case c18 => k_is)
    (case k18 => k_is)
    (case a19 => k_is)
    (case l19 => k_is)
    (case c19 => k_is)
    (case k19 => k_is)
    (case a20 => k_is)
    (case l20 => k_is)
    (case c20 => k_is)
    (case k20 => k_is)
    (case a21 => k_is)
    (case l21 => k_is)
    (case c21 => k_is)
    (case k21 => k_is)
    (case a22 => k_is)
    (case l22 => k_is)
    (case c22 => k_is)
    (case k22 => k_is)
    (case a23 => k_is)
    (case l23 => k_is)
    (case c23 => k_is)
    (case k23 => k_is)
    (case a24 => k_is)
    (case l24 => k_is)
    (case c24 => k_is)
    (case k24 => k_is)
    (case a25 => k_is)
    (case l25 => k_is)
    (case c25 => k_is)
    (case k25 => k_is)
    (case a26 => k_is)
    (case l26 => k_is)
    (case c26 => k_is)
    (case k26 => k_is)
    (case a27 => k_is)
    (case l27 => k_is)
    (case c27 => k_is)
    (case k27 => k_is)
    (case a28 => k_is)
    (case l28 => k_is)
    (case c28 => k_is)
    (case k28 => k_is)
    (case a29 => k_is)
    (case l29 => k_is)
    (case c29 => k_is)
    (case k29 => k_is)
    (case a30 => k_is)
    (case l30 => k_is)
    (case c30 => k_is)
    (case k30 => k_is)
    (case a31 => k_is)
    (case l31 => k_is)
    (case c31 => k_is)
    (case k31 => k_is)
    (case a32 => k_is)
    (case l32 => k_is)
    (case c32 => k_is)
    (case k32 => k_is)
    (case a33 => k_is)
    (case l33 => k_is)
    (case c33 => k_is)
    (case k33 => k_is)
    (case a34 => k_is)
    (case l34 => k_is)
    (case c34 => k_is)
    (case k34 => k_is)
    (case a35 => k_is)
    (case l35 => k_is)
    (case c35 => k_is)
    (case k35 => k_is)
    (case a36 => k_is)
    (case l36 => k_is)
    (case c36 => k_is)
    (case k36 => k_is)
    (case a37 => k_is)
    (case l37 => k_is)
    (case c37 => k_is)
    (case k37 => k_is)

